"""Point [20], and of [3] what it says of it: which bodies are alike, and the own moves of a body."""

import unittest
from fractions import Fraction
from itertools import permutations

from stakebodies.bodies import body_of, faces_of
from stakebodies.edges import edges_of
from stakebodies.likeness import alike, own_moves
from stakebodies.moves import behind, body_moved, is_move, way_back
from stakebodies.rooms import sixfold_room
from stakebodies.sums import body_fold, body_sum
from tests.shapes import (
    BIG_BOX, BODIES, BOX, CURVE_FORTY, HEXAGON_TOWER, HUGE, HUNDRED_FIGURES, MOVE_TUPLES, OCTAHEDRON, PRISM, PYRAMID,
    TETRA, Dice, determinant, folded, minus, slow_dimension, slow_moved, thrown_lists,
)

N = HUNDRED_FIGURES
LEAVES_ALL = MOVE_TUPLES["leaves all"]


def box_of(x, y, z):
    return sorted((i * x, j * y, k * z) for i in (0, 1) for j in (0, 1) for k in (0, 1))


def tower_on(flat, height):
    return sorted(P + (z,) for P in flat for z in (0, height))


def two_pyramids(flat, above, beneath):
    return sorted([P + (0,) for P in flat] + [above, beneath])


def wedge_of(p, q):
    """Four corners with the sixfold room q, and no other whole point in it where no number above 1 divides p and q."""
    return sorted([(0, 0, 0), (1, 0, 0), (0, 0, 1), (p, q, 1)])


TRIANGLE = [(0, 0), (1, 0), (0, 1)]
UNLIKE_TRIANGLE = [(0, 0), (3, 0), (0, 1)]
ODD_TRIANGLE = [(0, 0), (1, 3), (4, 1)]
SQUARE = [(1, 0), (0, 1), (-1, 0), (0, -1)]
LONG_SQUARE = [(2, 0), (0, 1), (-2, 0), (0, -1)]
HEXAGON = [(1, 0), (1, 1), (0, 1), (-1, 0), (-1, -1), (0, -1)]

# Bodies with as many own moves as one can count by hand.
KNOWN = {
    "box 1 1 1": (BOX, 48),
    "box 5 5 5": (box_of(5, 5, 5), 48),
    "box 2 2 3": (box_of(2, 2, 3), 16),
    "box 3 1 1": (box_of(3, 1, 1), 16),
    "box 1 2 3": (box_of(1, 2, 3), 8),
    "big box": (BIG_BOX, 8),
    "octahedron": (OCTAHEDRON, 48),
    "two pyramids, like ones": (two_pyramids(SQUARE, (0, 0, 2), (0, 0, -2)), 16),
    "two pyramids, a high and a low one": (two_pyramids(SQUARE, (0, 0, 3), (0, 0, -1)), 8),
    "two pyramids on a long square": (two_pyramids(LONG_SQUARE, (0, 0, 3), (0, 0, -3)), 8),
    "two pyramids on a long square, unlike": (two_pyramids(LONG_SQUARE, (0, 0, 3), (0, 0, -5)), 4),
    "two pyramids on a hexagon": (two_pyramids(HEXAGON, (0, 0, 1), (0, 0, -1)), 24),
    "pyramid": (PYRAMID, 8),
    "prism on a triangle": (tower_on(TRIANGLE, 5), 12),
    "prism on an unlike triangle": (tower_on(UNLIKE_TRIANGLE, 5), 4),
    "prism on an odd triangle": (tower_on(ODD_TRIANGLE, 5), 2),
    "prism on a hexagon": (tower_on(HEXAGON, 2), 24),
    "tetra": (TETRA, 24),
    "tetra with unlike lengths": ([(0, 0, 0), (0, 0, 5), (0, 3, 0), (2, 0, 0)], 1),
    "hexagon tower": (HEXAGON_TOWER, 1),
    "curve": (CURVE_FORTY, 2),
}


def slow_move(frame, goal):
    """What takes four points to four others, by Cramer's rule in fractions; None where it is no move."""
    ways = [minus(P, frame[0]) for P in frame[1:]]
    goals = [minus(P, goal[0]) for P in goal[1:]]
    room = determinant(*ways)
    if abs(room) != abs(determinant(*goals)):
        return None
    numbers = []
    for j in range(3):
        for k in range(3):
            # Row j of the move, taken with each of the ways, is number j of where that way goes.
            exchanged = [way[:k] + (goals[i][j],) + way[k + 1:] for i, way in enumerate(ways)]
            numbers.append(Fraction(determinant(*exchanged), room))
    if any(number.denominator != 1 for number in numbers):
        return None
    turn = tuple(int(number) for number in numbers)
    return turn + minus(goal[0], slow_moved(frame[0], turn + (0, 0, 0)))


def slow_moves(one, other):
    """All moves that take the one to the other: four corners of the one are tried at all places."""
    frame = next(four for four in permutations(one, 4) if slow_dimension(four) == 3)
    found = set()
    for goal in permutations(other, 4):
        move = slow_move(frame, goal)
        if move is not None and sorted(slow_moved(P, move) for P in one) == other:
            found.add(move)
    return sorted(found)


def thrown_bodies(count, most, bound):
    return [body_of(points) for points in thrown_lists(count, most, bound) if slow_dimension(points) == 3]


def sizes_of(land):
    return len(land), len(edges_of(land)), len(faces_of(land)), sixfold_room(land)


class Alike(unittest.TestCase):
    def assert_alike(self, one, other):
        move = alike(one, other)
        self.assertIs(is_move(move), True)
        self.assertEqual(sorted(slow_moved(P, move) for P in one), other)

    def test_a_body_and_it_moved(self):
        for name, land in BODIES.items():
            for how, move in MOVE_TUPLES.items():
                with self.subTest(name=name, how=how):
                    there = sorted(slow_moved(P, move) for P in land)
                    self.assert_alike(land, there)
                    self.assert_alike(there, land)

    def test_two_bodies_moved_in_unlike_ways(self):
        moves = list(MOVE_TUPLES.values())
        for land in (TETRA, PYRAMID, PRISM, HEXAGON_TOWER):
            for first, second in zip(moves, moves[3:] + moves[:3]):
                self.assert_alike(body_moved(land, first), body_moved(land, second))

    def test_thrown_bodies_moved(self):
        moves = list(MOVE_TUPLES.values())
        for k, land in enumerate(thrown_bodies(40, 12, 30)):
            self.assert_alike(land, body_moved(land, moves[k % len(moves)]))

    def test_moved_by_great_numbers(self):
        tall = 10 ** 98 + 9
        move = (1 + 7 * tall, tall, 0, 7, 1, 0, tall, 5, -1, N // 2, -N // 3, 0)
        self.assertIs(is_move(move), True)
        for land in (TETRA, BOX, HEXAGON_TOWER, CURVE_FORTY):
            self.assert_alike(land, body_moved(land, move))
            self.assert_alike(body_moved(land, move), land)

    def test_the_only_move_is_told(self):
        for move in MOVE_TUPLES.values():
            self.assertEqual(alike(HEXAGON_TOWER, body_moved(HEXAGON_TOWER, move)), move)

    def test_bodies_with_the_same_sizes_that_are_not_alike(self):
        pairs = [
            (box_of(1, 1, 6), box_of(1, 2, 3)),
            (wedge_of(1, 5), wedge_of(2, 5)),
            (tower_on(TRIANGLE, 6), tower_on(UNLIKE_TRIANGLE, 2)),
            (two_pyramids(SQUARE, (0, 0, 3), (0, 0, -1)), two_pyramids(SQUARE, (0, 0, 2), (0, 0, -2))),
            ([(0, 0, 0), (0, 0, 1), (0, 1, 0), (6, 0, 0)], [(0, 0, 0), (0, 0, 1), (0, 2, 0), (3, 0, 0)]),
            (box_of(N // 9, 1, 12), box_of(N // 9, 3, 4)),
        ]
        for one, other in pairs:
            with self.subTest(one=one, other=other):
                self.assertEqual(sizes_of(one), sizes_of(other))
                for move in MOVE_TUPLES.values():
                    self.assertIsNone(alike(one, body_moved(other, move)))
                    self.assertIsNone(alike(body_moved(other, move), one))

    def test_bodies_with_other_counts_or_rooms(self):
        lands = [TETRA, BOX, OCTAHEDRON, PYRAMID, PRISM, HEXAGON_TOWER, box_of(1, 1, 2), box_of(2, 2, 2)]
        for one in lands:
            for other in lands:
                if one is not other:
                    self.assertIsNone(alike(one, other))

    def test_wedges_are_alike_just_where_the_theory_says(self):
        """White's theorem: p or its inverse, with either sign, as counted round q."""
        for q in (5, 7, 8, 11, 13):
            free = [p for p in range(1, q) if all(p % d or q % d for d in range(2, q))]
            for p in free:
                like = {p, q - p, pow(p, -1, q), q - pow(p, -1, q)}
                for other in free:
                    move = alike(wedge_of(p, q), wedge_of(other, q))
                    self.assertEqual(move is not None, other in like, (p, other, q))

    def test_folds(self):
        for name, land in BODIES.items():
            with self.subTest(name):
                self.assertIsNone(alike(land, body_fold(land, 2)))
                self.assertIsNone(alike(body_fold(land, 2), land))
                self.assertIsNone(alike(land, body_fold(land, -3)))
                self.assert_alike(land, body_fold(land, -1))
                self.assert_alike(body_fold(land, 4), body_fold(land, -4))

    def test_a_body_and_itself(self):
        for land in BODIES.values():
            self.assert_alike(land, list(land))
            self.assertIn(alike(land, land), own_moves(land))

    def test_small_thrown_bodies_as_the_slow_reckoning_tells(self):
        lands = thrown_bodies(60, 5, 3)
        seen = set()
        for one in lands:
            for other in lands[::3]:
                move = alike(one, other)
                slow = slow_moves(one, other)
                self.assertEqual(move is not None, slow != [], (one, other))
                if move is not None:
                    self.assertIn(move, slow)
                seen.add((move is None, sizes_of(one) == sizes_of(other)))
        self.assertLessEqual({(False, True), (True, False), (True, True)}, seen)

    def test_a_whole_corner_may_go_to_each_corner_of_another_sort(self):
        """Four corners alike, and a fifth that has as many edges, but is not where the move would put it."""
        one = sorted(TETRA + [(1, 1, 2)])
        other = sorted(TETRA + [(1, 1, 3)])
        self.assertIsNone(alike(one, other))
        self.assertIsNone(alike(other, one))

    def test_as_great_as_is_promised(self):
        great = body_of([(t * (N // 20), t * t * (N // 400), t ** 3 * (N // 8000)) for t in range(-20, 20)])
        self.assertEqual(len(great), 40)
        there = sorted((P[2], -P[0], P[1]) for P in great)
        self.assert_alike(great, there)
        self.assertIsNone(alike(great, sorted((P[2], -P[0], P[1] + P[0] % 7) for P in great)))


class OwnMoves(unittest.TestCase):
    def test_as_many_as_counted_by_hand(self):
        for name, (land, count) in KNOWN.items():
            with self.subTest(name):
                self.assertEqual(len(own_moves(land)), count)

    def test_each_takes_the_body_to_itself(self):
        for name, (land, count) in KNOWN.items():
            with self.subTest(name):
                for move in own_moves(land):
                    self.assertIs(is_move(move), True)
                    self.assertEqual(sorted(slow_moved(P, move) for P in land), land)

    def test_in_order_each_once(self):
        for name, (land, count) in KNOWN.items():
            with self.subTest(name):
                told = own_moves(land)
                self.assertIs(told.__class__, list)
                self.assertEqual(told, sorted(set(told)))

    def test_every_one_of_them(self):
        for name, (land, count) in KNOWN.items():
            if len(land) <= 8:
                with self.subTest(name):
                    self.assertEqual(own_moves(land), slow_moves(land, land))

    def test_every_one_of_thrown_bodies(self):
        counts = set()
        for land in thrown_bodies(60, 6, 3) + [wedge_of(p, q) for q in (4, 5, 7) for p in range(q)]:
            told = own_moves(land)
            self.assertEqual(told, slow_moves(land, land))
            self.assertEqual(4 * len(edges_of(land)) % len(told), 0)
            counts.add(len(told))
        self.assertLessEqual({1, 2, 4}, counts)

    def test_their_number_divides_four_times_the_edges(self):
        for land in [land for land, count in KNOWN.values()] + list(BODIES.values()):
            self.assertEqual(4 * len(edges_of(land)) % len(own_moves(land)), 0)

    def test_a_moved_body_has_as_many(self):
        for name, (land, count) in KNOWN.items():
            for how, move in MOVE_TUPLES.items():
                with self.subTest(name=name, how=how):
                    self.assertEqual(len(own_moves(body_moved(land, move))), count)

    def test_of_a_moved_body_they_go_back_move_and_go_there(self):
        for land in (BOX, PYRAMID, PRISM, OCTAHEDRON):
            for move in MOVE_TUPLES.values():
                carried = [behind(behind(way_back(move), own), move) for own in own_moves(land)]
                self.assertEqual(own_moves(body_moved(land, move)), sorted(carried))

    def test_two_behind_one_another_and_ways_back_are_own_moves(self):
        for land in (TETRA, BOX, PYRAMID, PRISM, tower_on(HEXAGON, 2)):
            told = own_moves(land)
            self.assertIn(LEAVES_ALL, told)
            for first in told:
                self.assertIn(way_back(first), told)
                for second in told:
                    self.assertIn(behind(first, second), told)

    def test_the_move_alone_that_leaves_all(self):
        for name in ("hexagon tower", "tetra with unlike lengths"):
            self.assertEqual(own_moves(KNOWN[name][0]), [LEAVES_ALL])
        lone = thrown_bodies(30, 12, 1000)
        self.assertGreater(len(lone), 20)
        for land in lone:
            if len(land) > 5:
                self.assertEqual(own_moves(land), [LEAVES_ALL])

    def test_of_a_turned_sort_without_mirrors(self):
        land = body_sum(wedge_of(2, 5), wedge_of(2, 5))
        self.assertEqual(own_moves(land), slow_moves(land, land))

    def test_of_great_bodies(self):
        for land in (folded(OCTAHEDRON, N), [tuple(n + HUGE for n in P) for P in folded(BOX, N - 1)]):
            self.assertEqual(len(own_moves(land)), 48)
        points = [tuple(n * (N // 1000) for n in Dice(k).point(1000)) for k in range(40)]
        self.assertEqual(own_moves(body_of(points)), [LEAVES_ALL])


if __name__ == "__main__":
    unittest.main()
