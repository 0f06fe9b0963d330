"""Ways between points, their crosses and products, and planes of whole numbers."""

from stakebodies.errors import Flat


# True and 1.0 are equal to a whole number but are none, so the kind is asked.
def is_whole(thing):
    return isinstance(thing, int) and not isinstance(thing, bool)


def way_between(P, Q):
    return (Q[0] - P[0], Q[1] - P[1], Q[2] - P[2])


def put_together(u, v):
    return (u[0] + v[0], u[1] + v[1], u[2] + v[2])


def times(u, k):
    return (u[0] * k, u[1] * k, u[2] * k)


def cross_of(u, v):
    return (
        u[1] * v[2] - u[2] * v[1],
        u[2] * v[0] - u[0] * v[2],
        u[0] * v[1] - u[1] * v[0],
    )


def product_of(u, v):
    return u[0] * v[0] + u[1] * v[1] + u[2] * v[2]


def lift_of(P, Q, R, S):
    return product_of(cross_of(way_between(P, Q), way_between(P, R)), way_between(P, S))


def common_divisor(numbers):
    divisor = 0
    for number in numbers:
        rest = abs(number)
        while rest != 0:
            further = divisor % rest
            divisor = rest
            rest = further
    return divisor


def plane_through(P, Q, R):
    cross = cross_of(way_between(P, Q), way_between(P, R))
    divisor = common_divisor(cross)
    # A cross of naught alone has no divisor but 0: then the three span no plane.
    if divisor == 0:
        raise Flat("the three points are on a line")
    upright = (cross[0] // divisor, cross[1] // divisor, cross[2] // divisor)
    return (upright[0], upright[1], upright[2], product_of(upright, P))


def side_of(plane, P):
    height = plane[0] * P[0] + plane[1] * P[1] + plane[2] * P[2] - plane[3]
    if height > 0:
        return 1
    if height < 0:
        return -1
    return 0
