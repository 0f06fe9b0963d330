"""Moves of space that keep whole points whole."""

from stakebodies.bodies import body_of
from stakebodies.errors import NoMove
from stakebodies.spaces import cross_of, is_whole, product_of, put_together, times


def rows_in(move):
    return [move[0:3], move[3:6], move[6:9]]


def across(rows):
    return list(zip(rows[0], rows[1], rows[2]))


def taken_by(rows, u):
    return (product_of(rows[0], u), product_of(rows[1], u), product_of(rows[2], u))


# Each has the product 0 with the two ways that it is a cross of, and all three have one and
# the same with the way left out: so they undo the three ways, but for that product.
def crosses_round(ways):
    return [cross_of(ways[1], ways[2]), cross_of(ways[2], ways[0]), cross_of(ways[0], ways[1])]


def stretch_of(rows):
    return product_of(rows[0], cross_of(rows[1], rows[2]))


def is_move(thing):
    if not isinstance(thing, tuple) or len(thing) != 12:
        return False
    return all([is_whole(number) for number in thing]) and abs(stretch_of(rows_in(thing))) == 1


def refuse_no_move(thing):
    if not is_move(thing):
        raise NoMove("a move is a tuple of twelve whole numbers with the product 1 or -1")


# For what is known to be a move: looking at it again for each of many points takes time.
def point_taken(P, move):
    return put_together(taken_by(rows_in(move), P), move[9:])


def moved(P, move):
    refuse_no_move(move)
    return point_taken(P, move)


def behind(first, second):
    refuse_no_move(first)
    refuse_no_move(second)
    columns = across(rows_in(first))
    rows = across([taken_by(rows_in(second), column) for column in columns])
    return rows[0] + rows[1] + rows[2] + point_taken(first[9:], second)


# The product of the rows is 1 or -1: to take with it and to divide by it are one.
def way_back(move):
    refuse_no_move(move)
    rows = rows_in(move)
    columns = [times(cross, stretch_of(rows)) for cross in crosses_round(rows)]
    back = across(columns)
    return back[0] + back[1] + back[2] + times(taken_by(back, move[9:]), -1)


def body_moved(land, move):
    refuse_no_move(move)
    return body_of([point_taken(P, move) for P in land])
