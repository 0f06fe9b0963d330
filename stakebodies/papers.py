"""The two papers of a point: shares of corners that come to it, or a plane beyond which it lies."""

from stakebodies.bodies import NO_WAY, faces_of
from stakebodies.spaces import common_divisor, lift_of, put_together, side_of, times


def fraction_of(top, bottom):
    divisor = common_divisor((top, bottom))
    return (top // divisor, bottom // divisor)


# Wedges between one corner and the faces that don't have it fill the body. A face is cut
# into triangles, so that a wedge has four corners. A ring goes round to the left seen from
# outside, so with two of its corners exchanged the lift of the four is above 0.
def wedges_in(faces):
    apex = faces[0][1][0]
    wedges = []
    for plane, ring in faces:
        if apex not in ring:
            wedges.extend([(ring[k], ring[0], ring[k + 1], apex) for k in range(1, len(ring) - 1)])
    return wedges


# A corner weighs as much as there is room when the point stands in its place: all four
# together weigh as much as the wedge has room, and one below 0 shows a point outside of it.
def weights_in(wedge, P):
    return [
        lift_of(P, wedge[1], wedge[2], wedge[3]),
        lift_of(wedge[0], P, wedge[2], wedge[3]),
        lift_of(wedge[0], wedge[1], P, wedge[3]),
        lift_of(wedge[0], wedge[1], wedge[2], P),
    ]


def weights_by(faces, P):
    for wedge in wedges_in(faces):
        weights = weights_in(wedge, P)
        if min(weights) >= 0:
            return dict([(corner, weight) for corner, weight in zip(wedge, weights) if weight > 0])
    return None


def shares_by(weights):
    whole = sum(weights.values())
    return [(corner, fraction_of(weights[corner], whole)) for corner in sorted(weights)]


def shares_of(land, P):
    weights = weights_by(faces_of(land), P)
    if weights is None:
        return None
    return shares_by(weights)


def common_multiple(numbers):
    multiple = 1
    for number in numbers:
        multiple = multiple * (number // common_divisor((multiple, number)))
    return multiple


# Over one common bottom all is whole: no fraction has to be added.
def shares_come_to(P, corners, shares):
    bottom = common_multiple([share[1] for share in shares])
    whole = 0
    come_to = NO_WAY
    for corner, share in zip(corners, shares):
        weight = share[0] * (bottom // share[1])
        whole = whole + weight
        come_to = put_together(come_to, times(corner, weight))
    return whole == bottom and come_to == times(P, bottom)


def shares_show(land, P, pairs):
    corners = [pair[0] for pair in pairs]
    shares = [pair[1] for pair in pairs]
    if len(set(corners)) < len(corners):
        return False
    if any([corner not in land for corner in corners]):
        return False
    if any([share[0] <= 0 for share in shares]):
        return False
    return shares_come_to(P, corners, shares)


def plane_by(faces, P):
    for plane, ring in faces:
        if side_of(plane, P) > 0:
            return plane
    return None


def plane_beyond(land, P):
    return plane_by(faces_of(land), P)


def plane_bars(land, P, plane):
    return side_of(plane, P) > 0 and all([side_of(plane, corner) <= 0 for corner in land])
