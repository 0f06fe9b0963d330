"""Points [18] and [19]: what a move is, where it takes points and bodies, two behind one another, and the way back."""

import unittest

from stakebodies.bodies import body_of, is_body
from stakebodies.errors import BodyError, NoMove
from stakebodies.moves import behind, body_moved, is_move, moved, way_back
from stakebodies.rooms import sixfold_room
from tests.shapes import (
    BODIES, BOX, HUGE, HUNDRED_FIGURES, MOVE_TUPLES, PYRAMID, TETRA, Dice, determinant, slow_moved, thrown_lists,
)

N = HUNDRED_FIGURES
LEAVES_ALL = MOVE_TUPLES["leaves all"]
TALL = 10 ** 199 + 7

POINTS = [
    (0, 0, 0), (1, 0, 0), (0, 1, 0), (0, 0, 1), (1, 1, 1), (2, -3, 5), (-7, 11, -13), (N, -N, N - 1), (0, HUGE, -4),
]
# Four hundred figures and as many as that.
GREAT_MOVES = {
    "put off": (1, 0, 0, 0, 1, 0, 0, 0, 1, 10 ** 400 - 1, 1 - 10 ** 400, 10 ** 399),
    "sheared": (1, 10 ** 400 - 1, 0, 0, 1, 0, 0, 0, 1, 0, 0, 0),
    "sheared mirror": (1, 0, 0, 0, -1, 0, 10 ** 399 + 3, 10 ** 400 - 1, 1, 1, 2, 3),
    "both ways": (1 + TALL * (TALL - 1), TALL, 0, TALL - 1, 1, 0, 0, 0, 1, 0, -TALL, 9),
    "both ways, a mirror": (0, 0, -1, TALL, 1 + TALL * (TALL + 5), 0, 1, TALL + 5, 0, TALL, 0, 1),
}
ALL_MOVES = {**MOVE_TUPLES, **GREAT_MOVES}


class Twelve(tuple):
    """Still a tuple."""


class Odd:
    """Says of itself that it is equal to everything and has twelve parts, and is no move all the same."""

    def __eq__(self, other):
        return True

    def __hash__(self):
        return 0

    def __len__(self):
        return 12

    def __getitem__(self, k):
        return LEAVES_ALL[k]


def with_number(k, thing):
    """The move that leaves all, with another thing at one place."""
    return LEAVES_ALL[:k] + (thing,) + LEAVES_ALL[k + 1:]


NO_MOVES = [
    # products 0, 2, -3, and others
    (0,) * 12, (1,) * 12, (1, 2, 3, 2, 4, 6, 0, 0, 1, 0, 0, 0), (1, 2, 3, 4, 5, 6, 7, 8, 9, 0, 0, 0),
    (2, 0, 0, 0, 1, 0, 0, 0, 1, 0, 0, 0), (1, 0, 0, 0, 1, 0, 0, 0, 2, 5, 5, 5), (1, 1, 0, -1, 1, 0, 0, 0, 1, 0, 0, 0),
    (1, 0, 0, 0, -3, 0, 0, 0, 1, 0, 0, 0), (0, 3, 0, 1, 0, 0, 0, 0, 1, 1, 1, 1), (-2, 0, 0, 0, 1, 0, 0, 0, 1, 0, 0, 0),
    (10 ** 400 - 1, 0, 0, 0, 1, 0, 0, 0, 1, 0, 0, 0), (0, 0, 0, 0, 0, 0, 0, 0, 0, 1, 1, 1),
    (1, 0, 0, 0, 1, 0, 0, 0, 0, 0, 0, 1),
    # other counts
    (), (1,), LEAVES_ALL[:9], LEAVES_ALL[:11], LEAVES_ALL + (0,), LEAVES_ALL * 2, ((1, 0, 0), (0, 1, 0), (0, 0, 1)),
    ((1, 0, 0), (0, 1, 0), (0, 0, 1), (0, 0, 0)), (LEAVES_ALL,), (LEAVES_ALL,) * 12,
    # other kinds
    list(LEAVES_ALL), dict(enumerate(LEAVES_ALL)), set(LEAVES_ALL), "100010001000", "(1, 0, 0)", "", None, True, False,
    0, 1, 12, -1, 10 ** 400, 1.0, b"100010001000", bytes(LEAVES_ALL), range(12), object(), int, tuple, is_move, Odd(),
    iter(LEAVES_ALL), {}, [], [LEAVES_ALL],
]
NO_NUMBERS = [True, False, None, "0", "1", "", 1.0, 0.0, 0.5, float("nan"), 1j, b"1", (), (1,), [], [0], {}, Odd(), int]


def no_moves():
    yield from NO_MOVES
    for k in range(12):
        for thing in NO_NUMBERS:
            yield with_number(k, thing)


class IsMove(unittest.TestCase):
    def test_moves_with_either_product(self):
        products = set()
        for name, move in ALL_MOVES.items():
            with self.subTest(name):
                self.assertIs(is_move(move), True)
                products.add(determinant(move[:3], move[3:6], move[6:9]))
        self.assertEqual(products, {1, -1})

    def test_the_great_ones_have_four_hundred_figures(self):
        for name, move in GREAT_MOVES.items():
            with self.subTest(name):
                self.assertGreater(max(abs(n) for n in move), 10 ** 398)
                self.assertLess(max(abs(n) for n in move), 10 ** 400)

    def test_the_last_three_numbers_are_free(self):
        for start in ((0, 0, 0), (1, -1, 7), (N, N, N), (-1, 0, 10 ** 399)):
            self.assertIs(is_move(MOVE_TUPLES["slanted"][:9] + start), True)

    def test_a_tuple_is_a_tuple(self):
        self.assertIs(is_move(Twelve(LEAVES_ALL)), True)

    def test_what_is_no_move(self):
        for thing in no_moves():
            with self.subTest(kind=thing.__class__.__name__):
                self.assertIs(is_move(thing), False)

    def test_the_product_decides(self):
        dice = Dice(18)
        seen = set()
        for k in range(3000):
            move = tuple(dice.below(4) - 1 for place in range(12))
            product = determinant(move[:3], move[3:6], move[6:9])
            seen.add(product)
            self.assertIs(is_move(move), product in (1, -1), move)
        self.assertLessEqual({0, 1, -1, 2, -2, 3, -3, 4}, seen)

    def test_a_truth_at_one_place_of_each_move(self):
        for move in MOVE_TUPLES.values():
            for k, number in enumerate(move):
                if number in (0, 1):
                    self.assertIs(is_move(move[:k] + (bool(number),) + move[k + 1:]), False)


class Refused(unittest.TestCase):
    ASKED = {
        "moved": lambda thing: moved((1, 2, 3), thing),
        "behind, first": lambda thing: behind(thing, LEAVES_ALL),
        "behind, second": lambda thing: behind(LEAVES_ALL, thing),
        "behind, both": lambda thing: behind(thing, thing),
        "way_back": way_back,
        "body_moved": lambda thing: body_moved(BOX, thing),
    }

    def test_whatever_is_none_is_refused(self):
        for name, ask in self.ASKED.items():
            for thing in no_moves():
                with self.subTest(name=name, kind=thing.__class__.__name__):
                    with self.assertRaises(NoMove) as caught:
                        ask(thing)
                    self.assertIsInstance(caught.exception, BodyError)

    def test_no_move_is_refused_so(self):
        for name, ask in self.ASKED.items():
            for move in ALL_MOVES.values():
                with self.subTest(name):
                    ask(move)


class Moved(unittest.TestCase):
    def test_points(self):
        self.assertEqual(moved((1, 2, 3), (1, 0, 0, 0, 1, 0, 0, 0, 1, 10, 20, 30)), (11, 22, 33))
        self.assertEqual(moved((1, 2, 3), (0, 1, 0, 1, 0, 0, 0, 0, 1, 0, 0, 5)), (2, 1, 8))
        self.assertEqual(moved((1, 2, 3), (1, 3, -7, 2, 7, -12, 5, 15, -34, 8, -9, 4)), (-6, -29, -63))
        for move in ALL_MOVES.values():
            for P in POINTS:
                self.assertEqual(moved(P, move), slow_moved(P, move))

    def test_each_number_at_its_place(self):
        move = (1, 3, -7, 2, 7, -12, 5, 15, -34, 8, -9, 4)
        self.assertEqual(moved((0, 0, 0), move), (8, -9, 4))
        self.assertEqual(moved((1, 0, 0), move), (9, -7, 9))
        self.assertEqual(moved((0, 1, 0), move), (11, -2, 19))
        self.assertEqual(moved((0, 0, 1), move), (1, -21, -30))

    def test_a_point_is_a_tuple(self):
        told = moved((1, 2, 3), LEAVES_ALL)
        self.assertIs(told.__class__, tuple)
        self.assertEqual(told, (1, 2, 3))


class Behind(unittest.TestCase):
    def test_first_and_then_second(self):
        for first in ALL_MOVES.values():
            for second in ALL_MOVES.values():
                both = behind(first, second)
                self.assertIs(is_move(both), True)
                for P in POINTS:
                    self.assertEqual(slow_moved(P, both), slow_moved(slow_moved(P, first), second))

    def test_order_matters(self):
        mirror, off = MOVE_TUPLES["mirrored"], (1, 0, 0, 0, 1, 0, 0, 0, 1, 1, 2, 3)
        self.assertEqual(behind(mirror, off), (0, 1, 0, 1, 0, 0, 0, 0, 1, 1, 2, 3))
        self.assertEqual(behind(off, mirror), (0, 1, 0, 1, 0, 0, 0, 0, 1, 2, 1, 3))

    def test_leaving_all_changes_nothing(self):
        for move in ALL_MOVES.values():
            self.assertEqual(behind(move, LEAVES_ALL), move)
            self.assertEqual(behind(LEAVES_ALL, move), move)

    def test_three_in_either_grouping_are_one(self):
        for first in MOVE_TUPLES.values():
            for second in MOVE_TUPLES.values():
                for third in MOVE_TUPLES.values():
                    self.assertEqual(behind(behind(first, second), third), behind(first, behind(second, third)))

    def test_a_move_is_a_tuple_of_twelve(self):
        for told in (behind(LEAVES_ALL, MOVE_TUPLES["slanted"]), way_back(MOVE_TUPLES["slanted"])):
            self.assertIs(told.__class__, tuple)
            self.assertEqual([n.__class__ for n in told], [int] * 12)


class WayBack(unittest.TestCase):
    def test_a_move_and_its_way_back_leave_every_point(self):
        for name, move in ALL_MOVES.items():
            back = way_back(move)
            with self.subTest(name):
                self.assertIs(is_move(back), True)
                for P in POINTS:
                    self.assertEqual(moved(moved(P, move), back), P)
                    self.assertEqual(moved(moved(P, back), move), P)

    def test_behind_one_another_they_leave_all(self):
        for move in ALL_MOVES.values():
            self.assertEqual(behind(move, way_back(move)), LEAVES_ALL)
            self.assertEqual(behind(way_back(move), move), LEAVES_ALL)

    def test_the_way_back_of_the_way_back(self):
        for move in ALL_MOVES.values():
            self.assertEqual(way_back(way_back(move)), move)

    def test_known_ones(self):
        self.assertEqual(way_back(LEAVES_ALL), LEAVES_ALL)
        self.assertEqual(way_back((1, 0, 0, 0, 1, 0, 0, 0, 1, 4, -5, 6)), (1, 0, 0, 0, 1, 0, 0, 0, 1, -4, 5, -6))
        self.assertEqual(way_back((1, 5, 0, 0, 1, 0, 0, 0, 1, 2, 3, 4)), (1, -5, 0, 0, 1, 0, 0, 0, 1, 13, -3, -4))
        self.assertEqual(way_back((0, 1, 0, 0, 0, 1, -1, 0, 0, 1, 2, 3)), (0, 0, -1, 1, 0, 0, 0, 1, 0, 3, -1, -2))

    def test_of_two_behind_one_another(self):
        for first in MOVE_TUPLES.values():
            for second in MOVE_TUPLES.values():
                self.assertEqual(way_back(behind(first, second)), behind(way_back(second), way_back(first)))


class BodyMoved(unittest.TestCase):
    def test_the_body_of_the_corners_moved(self):
        for name, land in BODIES.items():
            for how, move in ALL_MOVES.items():
                with self.subTest(name=name, how=how):
                    told = body_moved(land, move)
                    self.assertEqual(told, sorted(slow_moved(P, move) for P in land))
                    self.assertIs(told.__class__, list)

    def test_it_is_a_body_of_as_much_room(self):
        for land in (TETRA, BOX, PYRAMID):
            for move in ALL_MOVES.values():
                self.assertIs(is_body(body_moved(land, move)), True)
                self.assertEqual(sixfold_room(body_moved(land, move)), sixfold_room(land))

    def test_by_a_mirror_in_order(self):
        self.assertEqual(
            body_moved(PYRAMID, (1, 0, 0, 0, 1, 0, 0, 0, -1, 0, 0, 0)),
            [(-2, -2, 0), (-2, 2, 0), (0, 0, -3), (2, -2, 0), (2, 2, 0)],
        )
        self.assertEqual(
            body_moved([(0, 0, 0), (0, 0, 3), (0, 2, 0), (1, 0, 0)], (-1, 0, 0, 0, 1, 0, 0, 0, 1, 0, 0, 0)),
            [(-1, 0, 0), (0, 0, 0), (0, 0, 3), (0, 2, 0)],
        )

    def test_there_and_back(self):
        for points in thrown_lists(20, 12, 50):
            land = body_of(points)
            for move in ALL_MOVES.values():
                self.assertEqual(body_moved(body_moved(land, move), way_back(move)), land)


if __name__ == "__main__":
    unittest.main()
