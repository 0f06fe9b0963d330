"""Points [4] and [5]: ways, crosses, products, lifts, planes and sides."""

import unittest
from itertools import permutations
from math import gcd

from stakebodies.errors import Flat
from stakebodies.spaces import cross_of, lift_of, plane_through, product_of, side_of, way_between
from tests.shapes import HUNDRED_FIGURES, HUGE, Dice, determinant, minus, slow_plane

N = HUNDRED_FIGURES


def thrown_points(count, how_many, bound):
    """Lists of points whose numbers lie on both sides of 0."""
    dice = Dice(bound + how_many)
    return [
        [tuple(n - bound // 2 for n in dice.point(bound)) for _ in range(how_many)]
        for _ in range(count)
    ]


class Kinds(unittest.TestCase):
    def assert_whole(self, told):
        self.assertIs(type(told), int)

    def assert_wholes(self, told, length):
        self.assertIs(type(told), tuple)
        self.assertEqual(len(told), length)
        for number in told:
            self.assert_whole(number)

    def test_kinds_of_all_that_is_told(self):
        for P, Q, R, S in thrown_points(40, 4, 3) + [[(0, 0, 0)] * 4, [(0, 0, 0), (1, 0, 0), (0, 1, 0), (0, 0, 1)]]:
            self.assert_wholes(way_between(P, Q), 3)
            self.assert_wholes(cross_of(P, Q), 3)
            self.assert_whole(product_of(P, Q))
            self.assert_whole(lift_of(P, Q, R, S))
            if slow_plane(P, Q, R) is not None:
                plane = plane_through(P, Q, R)
                self.assert_wholes(plane, 4)
                self.assert_whole(side_of(plane, S))


class Ways(unittest.TestCase):
    def test_way(self):
        self.assertEqual(way_between((1, 2, 3), (10, 20, 30)), (9, 18, 27))
        self.assertEqual(way_between((10, 20, 30), (1, 2, 3)), (-9, -18, -27))
        self.assertEqual(way_between((-4, 5, -6), (7, -8, -9)), (11, -13, -3))
        self.assertEqual(way_between((4, 5, 6), (4, 5, 6)), (0, 0, 0))

    def test_way_with_a_hundred_figures(self):
        self.assertEqual(way_between((N, -N, 1), (-N, N, N)), (-2 * N, 2 * N, N - 1))

    def test_cross(self):
        self.assertEqual(cross_of((1, 0, 0), (0, 1, 0)), (0, 0, 1))
        self.assertEqual(cross_of((0, 1, 0), (0, 0, 1)), (1, 0, 0))
        self.assertEqual(cross_of((0, 0, 1), (1, 0, 0)), (0, 1, 0))
        self.assertEqual(cross_of((2, 3, 5), (7, 11, 13)), (39 - 55, 35 - 26, 22 - 21))
        self.assertEqual(cross_of((-2, 3, -5), (7, -11, -13)), (-39 - 55, -35 - 26, 22 - 21))
        self.assertEqual(cross_of((2, -4, 6), (-3, 6, -9)), (0, 0, 0))

    def test_cross_with_a_hundred_figures(self):
        self.assertEqual(cross_of((N, 1, -N), (2, N, 3)), (3 + N * N, -5 * N, N * N - 2))

    def test_product(self):
        self.assertEqual(product_of((2, 3, 5), (7, 11, 13)), 14 + 33 + 65)
        self.assertEqual(product_of((-2, 3, -5), (7, -11, -13)), -14 - 33 + 65)
        self.assertEqual(product_of((1, 2, 3), (3, 0, -1)), 0)
        self.assertEqual(product_of((N, -N, N), (N, N, 2)), 2 * N)

    def test_cross_stands_upright_on_both(self):
        for u, v in thrown_points(50, 2, 41):
            self.assertEqual(product_of(cross_of(u, v), u), 0)
            self.assertEqual(product_of(cross_of(u, v), v), 0)
            self.assertEqual(cross_of(v, u), minus((0, 0, 0), cross_of(u, v)))


class Lifts(unittest.TestCase):
    def test_lift(self):
        self.assertEqual(lift_of((0, 0, 0), (1, 0, 0), (0, 1, 0), (0, 0, 1)), 1)
        self.assertEqual(lift_of((0, 0, 0), (2, 0, 0), (0, 3, 0), (0, 0, 5)), 30)
        self.assertEqual(lift_of((1, 1, 1), (3, 1, 1), (1, 4, 1), (9, 9, -4)), -30)
        self.assertEqual(lift_of((-1, 2, -3), (4, -5, 6), (-7, 8, 9), (1, -2, 3)), determinant(
            (5, -7, 9), (-6, 6, 12), (2, -4, 6)))

    def test_lift_on_thrown_points(self):
        for P, Q, R, S in thrown_points(60, 4, 1001):
            self.assertEqual(lift_of(P, Q, R, S), determinant(minus(Q, P), minus(R, P), minus(S, P)))

    def test_two_points_exchanged_exchange_the_sign(self):
        four = [(1, -2, 3), (-4, 5, 6), (7, 8, -9), (10, 0, 12)]
        lift = lift_of(*four)
        self.assertNotEqual(lift, 0)
        for k in range(4):
            for m in range(k):
                exchanged = list(four)
                exchanged[k], exchanged[m] = four[m], four[k]
                self.assertEqual(lift_of(*exchanged), -lift)

    def test_naught_on_a_plane(self):
        for four in permutations([(0, 0, 1), (3, 0, 7), (0, 5, -9), (3, 5, -3)]):
            self.assertEqual(lift_of(*four), 0)
        self.assertEqual(lift_of((1, 2, 3), (1, 2, 3), (4, 5, 6), (7, 8, 10)), 0)
        self.assertEqual(lift_of((1, 2, 3), (2, 4, 6), (3, 6, 9), (N, N, 1)), 0)

    def test_lift_with_a_hundred_figures(self):
        self.assertEqual(lift_of((-N, 0, 0), (N, 0, 0), (-N, N, 0), (-N, 0, -N)), -2 * N ** 3)
        self.assertEqual(lift_of((N, N, N), (N + 1, N, N), (N, N + 1, N), (N, N, N + 1)), 1)
        self.assertEqual(lift_of((0, 0, 0), (N, N - 1, 0), (N - 1, N - 2, 0), (0, 0, 1)), -1)


class Planes(unittest.TestCase):
    def test_cross_without_divisor(self):
        self.assertEqual(plane_through((0, 0, 0), (1, 0, 0), (0, 1, 0)), (0, 0, 1, 0))
        self.assertEqual(plane_through((1, 0, 0), (0, 1, 0), (0, 0, 1)), (1, 1, 1, 1))
        self.assertEqual(plane_through((1, 2, 3), (2, 2, 5), (1, 3, 6)), (-2, -3, 1, -5))

    def test_cross_with_divisor(self):
        self.assertEqual(plane_through((0, 0, 7), (4, 0, 7), (0, 6, 7)), (0, 0, 1, 7))
        self.assertEqual(plane_through((6, 0, 0), (0, 6, 0), (0, 0, 6)), (1, 1, 1, 6))
        self.assertEqual(plane_through((6, 0, 0), (0, 3, 0), (0, 0, 2)), (1, 2, 3, 6))
        self.assertEqual(plane_through((1, 1, 1), (3, 1, 1), (1, 1, 5)), (0, -1, 0, -1))

    def test_d_has_no_part_in_the_divisor(self):
        self.assertEqual(plane_through((0, 0, 4), (2, 0, 4), (0, 2, 4)), (0, 0, 1, 4))
        self.assertEqual(plane_through((3, 0, 0), (0, 2, 0), (0, 0, 1)), (2, 3, 6, 6))

    def test_numbers_below_naught(self):
        self.assertEqual(plane_through((-1, 0, 0), (0, -1, 0), (0, 0, -1)), (1, 1, 1, -1))
        self.assertEqual(plane_through((0, 0, -7), (0, 6, -7), (4, 0, -7)), (0, 0, -1, 7))
        self.assertEqual(plane_through((-6, -1, -2), (-6, -3, -2), (-6, -1, -8)), (1, 0, 0, -6))

    def test_a_hundred_figures(self):
        self.assertEqual(plane_through((N, 0, 0), (0, N, 0), (0, 0, N)), (1, 1, 1, N))
        self.assertEqual(plane_through((N, N, N), (N, N, -N), (N, -N, N)), (-1, 0, 0, -N))
        self.assertEqual(plane_through((0, 0, 0), (N, 1, 0), (0, 0, 1)), (1, -N, 0, 0))

    def test_same_plane_going_round_and_all_signs_exchanged_the_other_way(self):
        for P, Q, R in thrown_points(60, 3, 21):
            if slow_plane(P, Q, R) is None:
                continue
            plane = plane_through(P, Q, R)
            self.assertEqual(plane_through(Q, R, P), plane)
            self.assertEqual(plane_through(R, P, Q), plane)
            other = tuple(-n for n in plane)
            self.assertEqual(plane_through(Q, P, R), other)
            self.assertEqual(plane_through(P, R, Q), other)
            self.assertEqual(plane_through(R, Q, P), other)

    def test_thrown_planes(self):
        seen = set()
        for P, Q, R in thrown_points(200, 3, 31) + thrown_points(50, 3, 10 ** 9):
            expected = slow_plane(P, Q, R)
            if expected is None:
                continue
            plane = plane_through(P, Q, R)
            self.assertEqual(plane, expected)
            self.assertEqual(gcd(*plane[:3]), 1)
            cross = cross_of(way_between(P, Q), way_between(P, R))
            seen.add(gcd(*cross) > 1)
            for k in range(3):
                self.assertEqual(plane[k] * gcd(*cross), cross[k])
            for S in (P, Q, R):
                self.assertEqual(side_of(plane, S), 0)
        self.assertEqual(seen, {True, False})

    def test_flat_on_a_line(self):
        on_lines = [
            [(0, 0, 0), (1, 2, 3), (2, 4, 6)],
            [(5, 5, 5), (5, 5, 6), (5, 5, -40)],
            [(1, -2, 3), (1, -2, 3), (4, 5, 6)],
            [(7, 8, 9), (7, 8, 9), (7, 8, 9)],
            [(0, 0, 0), (0, 0, 0), (0, 0, 0)],
            [(-N, N, 0), (0, 0, 0), (N, -N, 0)],
            [(HUGE, 1, 1), (HUGE + 3, 3, 2), (HUGE - 6, -3, -1)],
        ]
        for three in on_lines:
            for P, Q, R in permutations(three):
                with self.subTest(P=P, Q=Q, R=R):
                    with self.assertRaises(Flat):
                        plane_through(P, Q, R)

    def test_just_off_a_line_is_a_plane(self):
        self.assertEqual(plane_through((-N, N, 0), (0, 0, 0), (N, -N, 1)), (-1, -1, 0, 0))
        self.assertEqual(plane_through((0, 0, 0), (1, 2, 3), (2, 4, 7)), (2, -1, 0, 0))


class Sides(unittest.TestCase):
    def test_sides(self):
        plane = (1, 2, 3, 6)
        self.assertEqual(side_of(plane, (1, 1, 1)), 0)
        self.assertEqual(side_of(plane, (6, 0, 0)), 0)
        self.assertEqual(side_of(plane, (7, 0, 0)), 1)
        self.assertEqual(side_of(plane, (1, 1, 2)), 1)
        self.assertEqual(side_of(plane, (5, 0, 0)), -1)
        self.assertEqual(side_of(plane, (0, 0, 0)), -1)
        self.assertEqual(side_of(plane, (100, 100, 100)), 1)
        self.assertEqual(side_of(plane, (-100, -100, -100)), -1)

    def test_sides_with_signs_exchanged(self):
        plane = (-1, -2, -3, -6)
        self.assertEqual(side_of(plane, (1, 1, 1)), 0)
        self.assertEqual(side_of(plane, (7, 0, 0)), -1)
        self.assertEqual(side_of(plane, (5, 0, 0)), 1)

    def test_sides_by_each_number(self):
        for k in range(3):
            plane = tuple(int(j == k) for j in range(3)) + (5,)
            for number, side in ((4, -1), (5, 0), (6, 1)):
                P = tuple(number if j == k else 77 for j in range(3))
                self.assertEqual(side_of(plane, P), side)

    def test_sides_with_a_hundred_figures(self):
        plane = (1, -N, 0, 0)
        self.assertEqual(side_of(plane, (N, 1, N)), 0)
        self.assertEqual(side_of(plane, (N - 1, 1, N)), -1)
        self.assertEqual(side_of(plane, (N, 0, -N)), 1)

    def test_side_is_the_sign_of_the_lift(self):
        for P, Q, R, S in thrown_points(100, 4, 5):
            if slow_plane(P, Q, R) is not None:
                lift = lift_of(P, Q, R, S)
                self.assertEqual(side_of(plane_through(P, Q, R), S), (lift > 0) - (lift < 0))


if __name__ == "__main__":
    unittest.main()
