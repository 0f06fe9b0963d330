"""Folds of a body, and sums and differences of two."""

from stakebodies.bodies import body_of, corners_in, faces_from, first_pair
from stakebodies.spaces import product_of, put_together, times


# By 0 all corners fall together, and what is without room is refused as a body anyway.
def body_fold(land, k):
    return body_of([times(P, k) for P in land])


# Where a sum comes of several pairs the last one is kept; a corner comes of just one.
def pairs_by_sum(one, other):
    pairs = {}
    for P in one:
        for Q in other:
            pairs[put_together(P, Q)] = (P, Q)
    return pairs


def outermost(upright, land):
    heights = [product_of(upright, P) for P in land]
    most = max(heights)
    return [P for P, height in zip(land, heights) if height == most]


# Of the very many sums few have to be looked at. About a corner that is the sum of P and Q
# they lie as those of P with all of the other and of Q with all of the one do; and a plane
# touches them where planes of the same uprightness touch the two bodies.
def sum_faces(one, other):
    pairs = pairs_by_sum(one, other)

    def about(corner):
        pair = pairs[corner]
        return [put_together(P, pair[1]) for P in one] + [put_together(pair[0], Q) for Q in other]

    def touched_by(plane):
        return sorted(pairs_by_sum(outermost(plane[:3], one), outermost(plane[:3], other)))

    return faces_from(first_pair(sorted(pairs)), about, touched_by)


def turned_back(land):
    return [times(P, -1) for P in land]


def body_sum(one, other):
    return corners_in(sum_faces(one, other))


def body_difference(one, other):
    return body_sum(one, turned_back(other))
