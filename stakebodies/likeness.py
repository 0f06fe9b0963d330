"""Which bodies some move takes to one another, and all moves that take a body to itself."""

from stakebodies.bodies import faces_of
from stakebodies.moves import across, crosses_round, point_taken, rows_in, taken_by
from stakebodies.spaces import lift_of, way_between


# A frame is a corner, the other end of an edge there, and the ends of the two edges beside it
# about the corner: four points that are not on a plane, since the faces to either side of the
# edge have nothing but the edge in common. Each edge has four frames, by its end and its side.
def frames_of(land):
    to_left = {}
    to_right = {}
    for plane, ring in faces_of(land):
        for k in range(len(ring)):
            to_left[(ring[k - 1], ring[k])] = ring[k - 2]
            to_right[(ring[k - 1], ring[k - 2])] = ring[k]
    frames = []
    for pair in to_left:
        frames.append(pair + (to_left[pair], to_right[pair]))
        frames.append(pair + (to_right[pair], to_left[pair]))
    return frames


def ways_in(frame):
    return [way_between(frame[0], P) for P in frame[1:]]


# Just one way of taking space on keeps straight lines straight and takes the four points of
# the one frame to those of the other. It is a move where its numbers are whole and the lifts
# of both frames are as great.
def move_between(frame, goal):
    lift = lift_of(frame[0], frame[1], frame[2], frame[3])
    if abs(lift) != abs(lift_of(goal[0], goal[1], goal[2], goal[3])):
        return None
    goal_rows = across(ways_in(goal))
    columns = across(crosses_round(ways_in(frame)))
    rows = across([taken_by(goal_rows, column) for column in columns])
    numbers = rows[0] + rows[1] + rows[2]
    if any([number % lift != 0 for number in numbers]):
        return None
    turn = tuple([number // lift for number in numbers])
    return turn + way_between(taken_by(rows_in(turn), frame[0]), goal[0])


# A move takes faces to faces and edges to edges, so it takes any one frame of the one body to
# some frame of the other, and by where that one goes it is known.
def moves_between(one, other):
    frame = frames_of(one)[0]
    found = []
    for goal in frames_of(other):
        move = move_between(frame, goal)
        if move is not None and sorted([point_taken(P, move) for P in one]) == other:
            found.append(move)
    return sorted(found)


def alike(one, other):
    return min(moves_between(one, other), default=None)


def own_moves(land):
    return moves_between(land, land)
