"""How much room a body has, also from any viewpoint, and its shadows."""

from stakebodies.bodies import faces_of, pairs_round, ring_of
from stakebodies.errors import NoAxis
from stakebodies.spaces import is_whole, lift_of

UPWARD = (0, 0, 1)


def room_seen(ring, V):
    return -sum([lift_of(ring[0], ring[k], ring[k + 1], V) for k in range(1, len(ring) - 1)])


def rooms_seen(land, V):
    return [room_seen(ring, V) for plane, ring in faces_of(land)]


# It is the same from each viewpoint; from a corner, the numbers are small.
def sixfold_room(land):
    return sum(rooms_seen(land, land[0]))


def is_axis(thing):
    return is_whole(thing) and 0 <= thing <= 2


# The shape lies flat in space, seen from above, so that its ring is found as a face's is.
def shadow_of(land, axis):
    if not is_axis(axis):
        raise NoAxis("an axis is 0, 1 or 2")
    flat = [P[:axis] + P[axis + 1:] + (0,) for P in land]
    return [P[:2] for P in ring_of(UPWARD, sorted(set(flat)))]


def shadow_area(land, axis):
    return sum([P[0] * Q[1] - P[1] * Q[0] for P, Q in pairs_round(shadow_of(land, axis))])
