"""Points [6] and [7]: the dimension of points and the corners of their body."""

import unittest
from itertools import permutations

from stakebodies.bodies import body_of, dimension_of, is_body
from stakebodies.errors import Flat, NoPoints
from tests.shapes import (
    BIG_BOX, BODIES, BOWL_FORTY, BOX, CURVE_FORTY, DRUM_FORTY, HUNDRED_FIGURES, MOVES, OCTAHEDRON, ON_A_LINE,
    ON_A_PLANE, ON_ONE_POINT, PRISM, PYRAMID, TETRA, WITHOUT_ROOM, Dice, dot, moved_bodies, slow_dimension, slow_faces,
    thrown_lists, with_more_points,
)

N = HUNDRED_FIGURES


class Dimensions(unittest.TestCase):
    def test_naught_one_and_two(self):
        for dimension, lists in ((0, ON_ONE_POINT), (1, ON_A_LINE), (2, ON_A_PLANE)):
            for points in lists:
                for how, move in MOVES.items():
                    with self.subTest(points=points, how=how):
                        told = dimension_of([move(P) for P in points])
                        self.assertEqual(told, dimension)
                        self.assertIs(type(told), int)

    def test_three(self):
        for label, points in moved_bodies():
            with self.subTest(label):
                self.assertEqual(dimension_of(points), 3)
                self.assertEqual(dimension_of(points[::-1] + points), 3)

    def test_one_point_more_decides(self):
        flat = [(x, y, 4 - 3 * x + 2 * y) for x in range(-2, 3) for y in range(3)]
        for k in range(len(flat) + 1):
            self.assertEqual(dimension_of(flat[:k] + [(0, 0, 5)] + flat[k:]), 3)
            self.assertEqual(dimension_of(flat[:k] + [(100, 0, -296)] + flat[k:]), 2)
        line = [(k, 2 * k, 3 * k) for k in range(5)]
        for k in range(6):
            self.assertEqual(dimension_of(line[:k] + [(1, 2, 4)] + line[k:]), 2)
        for k in range(4):
            self.assertEqual(dimension_of([(1, 1, 1)] * k + [(1, 1, 2)] + [(1, 1, 1)] * (3 - k)), 1)
        for four in permutations([(0, 0, 0), (N, 1, 0), (0, N, 1), (N, N + 1, 1)]):
            self.assertEqual(dimension_of(list(four)), 2)
        for four in permutations([(0, 0, 0), (N, 1, 0), (0, N, 1), (N, N + 1, 2)]):
            self.assertEqual(dimension_of(list(four)), 3)

    def test_thrown_points(self):
        seen = set()
        for points in thrown_lists(150, 7, 2) + thrown_lists(50, 6, 4):
            for length in range(1, len(points) + 1):
                part = points[:length]
                seen.add(slow_dimension(part))
                self.assertEqual(dimension_of(part), slow_dimension(part))
        self.assertEqual(seen, {0, 1, 2, 3})

    def test_of_no_points(self):
        with self.assertRaises(NoPoints):
            dimension_of([])


class Corners(unittest.TestCase):
    def test_bodies_are_their_own_body_in_any_order(self):
        for label, corners in moved_bodies():
            with self.subTest(label):
                self.assertEqual(body_of(corners), corners)
                self.assertEqual(body_of(corners[::-1]), corners)
                self.assertEqual(body_of(Dice(7).shuffled(corners)), corners)
                self.assertEqual(body_of(corners[3:] + corners), corners)

    def test_forty_corners(self):
        for points in (CURVE_FORTY, BOWL_FORTY, DRUM_FORTY):
            self.assertEqual(len(points), 40)
            self.assertEqual(len(body_of(points)), 40)

    def test_box_with_all_its_points(self):
        grid = [(x, y, z) for z in (2, 0, 1) for y in (1, 2, 0) for x in (2, 0, 1)]
        expected = [(0, 0, 0), (0, 0, 2), (0, 2, 0), (0, 2, 2), (2, 0, 0), (2, 0, 2), (2, 2, 0), (2, 2, 2)]
        self.assertEqual(body_of(grid), expected)

    def test_points_that_are_no_corners(self):
        corners = [(0, 0, 0), (0, 0, 6), (0, 6, 0), (6, 0, 0)]
        no_corners = {
            "told twice": (0, 6, 0), "inside": (1, 1, 1), "on a face": (2, 2, 2), "on a lower face": (0, 1, 1),
            "on an edge": (3, 0, 3), "on a lower edge": (0, 0, 1), "by a corner": (0, 5, 1),
        }
        for what, P in no_corners.items():
            for k in range(5):
                with self.subTest(what=what, k=k):
                    self.assertEqual(body_of(corners[:k] + [P] + corners[k:]), corners)
        self.assertEqual(body_of(list(no_corners.values()) + corners), corners)

    def test_points_just_outside_are_corners(self):
        corners = [(0, 0, 0), (0, 0, 6), (0, 6, 0), (6, 0, 0)]
        for P in ((2, 2, 3), (-1, 1, 1), (3, -1, 3), (0, 0, 7)):
            told = body_of(corners + [P])
            self.assertIn(P, told)
            self.assertEqual(told, sorted(told))
        self.assertEqual(body_of(corners + [(0, 0, 7)]), [(0, 0, 0), (0, 0, 7), (0, 6, 0), (6, 0, 0)])

    def test_more_points_slanted_mirrored_and_far_off(self):
        for name in BODIES:
            if len(BODIES[name]) > 30:
                continue
            more, corners = with_more_points(BODIES[name])
            for how, move in MOVES.items():
                with self.subTest(name=name, how=how):
                    told = body_of([move(P) for P in more])
                    self.assertEqual(told, sorted(move(P) for P in corners))

    def test_a_plane_of_many_points_below_one(self):
        grid = [(x, y, 0) for x in range(6) for y in range(6)]
        self.assertEqual(body_of(grid + [(2, 3, 1)]), [(0, 0, 0), (0, 5, 0), (2, 3, 1), (5, 0, 0), (5, 5, 0)])

    def test_some_whole_numbers_make_just_the_corners_greatest(self):
        for points in thrown_lists(120, 14, 5):
            if slow_dimension(points) < 3:
                continue
            told = body_of(points)
            faces = slow_faces(points)
            self.assertEqual(told, sorted({P for plane, ring in faces for P in ring}))
            for P in told:
                # The sum of what stands upright on the faces about P is greatest at P alone.
                way = [sum(plane[k] for plane, ring in faces if P in ring) for k in range(3)]
                self.assertTrue(all(dot(way, Q) < dot(way, P) for Q in points if Q != P))

    def test_corners_need_just_one_more_than_a_number_of_many_figures(self):
        flat = [(0, 0, 0), (0, N, 0), (N, 0, 0), (N, N, 0)]
        self.assertEqual(body_of(flat + [(1, 1, 1)]), sorted(flat + [(1, 1, 1)]))
        tall = [(0, 0, 0), (0, 0, N), (0, N, 0), (N, 0, 0)]
        self.assertEqual(body_of(tall + [(1, 1, N - 2)]), tall)
        self.assertEqual(body_of(tall + [(1, 1, N - 1)]), sorted(tall + [(1, 1, N - 1)]))

    def test_refusals(self):
        with self.assertRaises(NoPoints):
            body_of([])
        for points in WITHOUT_ROOM:
            with self.subTest(points=points):
                with self.assertRaises(Flat):
                    body_of(points)

    def test_kinds(self):
        told = body_of(BOX)
        self.assertIs(type(told), list)
        for P in told:
            self.assertIs(type(P), tuple)
            self.assertEqual([type(n) for n in P], [int] * 3)


class IsBody(unittest.TestCase):
    def test_corners_in_order(self):
        for label, corners in moved_bodies():
            with self.subTest(label):
                self.assertIs(is_body(corners), True)

    def test_corners_in_another_order(self):
        for four in permutations(TETRA):
            self.assertIs(is_body(list(four)), list(four) == TETRA)
        for corners in (BOX, BIG_BOX, PYRAMID, PRISM, OCTAHEDRON, CURVE_FORTY):
            self.assertIs(is_body(corners[::-1]), False)
            self.assertIs(is_body(corners[1:] + corners[:1]), False)
            self.assertIs(is_body(corners[:-2] + [corners[-1], corners[-2]]), False)

    def test_a_corner_twice(self):
        for k in range(8):
            self.assertIs(is_body(BOX[:k] + [BOX[k]] + BOX[k:]), False)
        self.assertIs(is_body(BOX + BOX), False)

    def test_a_point_that_is_no_corner(self):
        corners = [(0, 0, 0), (0, 0, 6), (0, 6, 0), (6, 0, 0)]
        self.assertIs(is_body(corners), True)
        for P in ((1, 1, 1), (2, 2, 2), (0, 1, 1), (3, 0, 3), (0, 0, 1)):
            self.assertIs(is_body(sorted(corners + [P])), False)
        self.assertIs(is_body(sorted(corners + [(2, 2, 3)])), True)

    def test_points_without_room(self):
        for points in WITHOUT_ROOM:
            self.assertIs(is_body(points), False)
            self.assertIs(is_body(sorted(set(points))), False)
        self.assertIs(is_body([]), False)


if __name__ == "__main__":
    unittest.main()
