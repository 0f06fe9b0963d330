"""Two bodies: a point that both have, or a plane that parts them."""

from stakebodies.bodies import NO_WAY
from stakebodies.papers import plane_by, shares_by, weights_by
from stakebodies.spaces import product_of, times
from stakebodies.sums import pairs_by_sum, sum_faces, turned_back


# Two bodies have a point in common just where their difference has (0, 0, 0). Shares of its
# corners that come to (0, 0, 0), taken at the corners of which each is the difference, come
# to the same point in both bodies.
def meeting_of(one, other):
    back = turned_back(other)
    weights = weights_by(sum_faces(one, back), NO_WAY)
    if weights is None:
        return None
    pairs = pairs_by_sum(one, back)
    of_one = {}
    of_other = {}
    for corner in weights:
        P = pairs[corner][0]
        Q = times(pairs[corner][1], -1)
        of_one[P] = of_one.get(P, 0) + weights[corner]
        of_other[Q] = of_other.get(Q, 0) + weights[corner]
    return (shares_by(of_one), shares_by(of_other))


# Beyond a face of the difference lies (0, 0, 0) just where along it each corner of the one is
# lower than each of the other: then it parts them where it is laid through the one's highest.
def parting_of(one, other):
    plane = plane_by(sum_faces(one, turned_back(other)), NO_WAY)
    if plane is None:
        return None
    upright = plane[:3]
    return upright + (max([product_of(upright, P) for P in one]),)
