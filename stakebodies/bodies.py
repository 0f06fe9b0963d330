"""The dimension of points, the body that they span, and its faces."""

from stakebodies.errors import Flat, NoPoints
from stakebodies.spaces import cross_of, plane_through, product_of, side_of, way_between

NO_WAY = (0, 0, 0)


def first_real_way(ways):
    for way in ways:
        if way != NO_WAY:
            return way
    return None


def dimension_of(points):
    if len(points) == 0:
        raise NoPoints("no points have no dimension")
    ways = [way_between(points[0], P) for P in points]
    along = first_real_way(ways)
    if along is None:
        return 0
    upright = first_real_way([cross_of(along, way) for way in ways])
    if upright is None:
        return 1
    if any([product_of(upright, way) != 0 for way in ways]):
        return 3
    return 2


def refuse_flat(points):
    if dimension_of(points) < 3:
        raise Flat("the points are all on a plane")


def points_on(plane, points):
    return [P for P in points if side_of(plane, P) == 0]


# The line through the pair has to touch the body at its rim. Seen along it, all points then
# lie within less than half a turn, so a single walk finds one that no other one is above.
def plane_about(pair, points):
    along = way_between(pair[0], pair[1])
    upright = NO_WAY
    outermost = pair[0]
    for P in points:
        way = way_between(pair[0], P)
        if upright == NO_WAY or product_of(upright, way) > 0:
            upright = cross_of(along, way)
            outermost = P
    return plane_through(pair[0], pair[1], outermost)


# The upright line through the least point touches the body, since no point is less in its
# first two numbers. The plane about it may touch the body in an edge alone: then that edge
# is the line about which a face is found.
def first_pair(points):
    least = min(points)
    upward = (least, (least[0], least[1], least[2] + 1))
    touched = points_on(plane_about(upward, points), points)
    if dimension_of(touched) == 2:
        return upward
    return (touched[0], touched[1])


def turn_of(upright, P, Q, R):
    return product_of(upright, cross_of(way_between(P, Q), way_between(Q, R)))


def left_chain(upright, points):
    chain = []
    for P in points:
        while len(chain) > 1 and turn_of(upright, chain[-2], chain[-1], P) <= 0:
            chain.pop()
        chain.append(P)
    return chain


# The order of tuples runs through a plane as some straight direction does, so going there
# and back in it, ever to the left, is going round. The points have to be unlike, and in order.
def ring_of(upright, points):
    there = left_chain(upright, points)
    back = left_chain(upright, list(reversed(points)))
    return there[:-1] + back[:-1]


def pairs_round(ring):
    return list(zip(ring, ring[1:] + ring[:1]))


# Two faces walk the edge between them in unlike directions: where a pair is walked its face
# is known, and turning about one that is not leads to a new face. So that not every point
# has to be looked at for every face, `about` tells points that lie about a corner as all of
# them do, and `touched_by` those on a plane above which there is none, in order.
def faces_from(first, about, touched_by):
    faces = []
    walked = {}
    waiting = [first]
    while len(waiting) > 0:
        pair = waiting.pop()
        if pair not in walked:
            plane = plane_about(pair, about(pair[0]))
            ring = ring_of(plane[:3], touched_by(plane))
            faces.append((plane, ring))
            for step in pairs_round(ring):
                walked[step] = True
                waiting.append((step[1], step[0]))
    return sorted(faces)


def faces_of(points):
    refuse_flat(points)
    spread = sorted(set(points))

    def about(corner):
        return spread

    def touched_by(plane):
        return points_on(plane, spread)

    return faces_from(first_pair(spread), about, touched_by)


def corners_in(faces):
    corners = []
    for plane, ring in faces:
        corners.extend(ring)
    return sorted(set(corners))


def body_of(points):
    return corners_in(faces_of(points))


def is_body(points):
    if len(points) == 0 or dimension_of(points) < 3:
        return False
    return body_of(points) == points
