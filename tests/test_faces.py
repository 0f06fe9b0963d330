"""Point [8]: the faces of a body and their rings."""

import unittest
from math import gcd

from stakebodies.bodies import body_of, faces_of
from stakebodies.errors import Flat, NoPoints
from tests.shapes import (
    BOWL_FORTY, BOX, CURVE_FORTY, DRUM_FORTY, HEXAGON_TOWER, HUNDRED_FIGURES, MOVES, PYRAMID, TETRA, WITHOUT_ROOM,
    Dice, dot, minus, moved_bodies, slow_cross, slow_dimension, slow_faces, slow_side, thrown_lists, with_more_points,
)

N = HUNDRED_FIGURES

BOX_FACES = [
    ((-1, 0, 0, 0), [(0, 0, 0), (0, 0, 1), (0, 1, 1), (0, 1, 0)]),
    ((0, -1, 0, 0), [(0, 0, 0), (1, 0, 0), (1, 0, 1), (0, 0, 1)]),
    ((0, 0, -1, 0), [(0, 0, 0), (0, 1, 0), (1, 1, 0), (1, 0, 0)]),
    ((0, 0, 1, 1), [(0, 0, 1), (1, 0, 1), (1, 1, 1), (0, 1, 1)]),
    ((0, 1, 0, 1), [(0, 1, 0), (0, 1, 1), (1, 1, 1), (1, 1, 0)]),
    ((1, 0, 0, 1), [(1, 0, 0), (1, 1, 0), (1, 1, 1), (1, 0, 1)]),
]


class Faces(unittest.TestCase):
    def assert_faces_hold(self, points):
        """What the point says of faces, word by word."""
        told = faces_of(points)
        corners = body_of(points)
        planes = [plane for plane, ring in told]
        self.assertEqual(planes, sorted(planes))
        self.assertEqual(len(planes), len(set(planes)))
        for plane, ring in told:
            self.assertEqual(gcd(*plane[:3]), 1)
            self.assertTrue(all(slow_side(plane, P) <= 0 for P in points))
            self.assertEqual(sorted(ring), [P for P in corners if slow_side(plane, P) == 0])
            self.assertEqual(ring[0], min(ring))
            self.assertGreaterEqual(len(ring), 3)
            for k, here in enumerate(ring):
                ahead, behind_it = ring[(k + 1) % len(ring)], ring[(k + 2) % len(ring)]
                cross = slow_cross(minus(ahead, here), minus(behind_it, ahead))
                self.assertEqual(cross, tuple(gcd(*cross) * n for n in plane[:3]))
                self.assertGreater(gcd(*cross), 0)
                for P in ring:
                    self.assertGreaterEqual(dot(plane[:3], slow_cross(minus(ahead, here), minus(P, ahead))), 0)

    def test_tetra(self):
        self.assertEqual(faces_of(TETRA), [
            ((-1, 0, 0, 0), [(0, 0, 0), (0, 0, 1), (0, 1, 0)]),
            ((0, -1, 0, 0), [(0, 0, 0), (1, 0, 0), (0, 0, 1)]),
            ((0, 0, -1, 0), [(0, 0, 0), (0, 1, 0), (1, 0, 0)]),
            ((1, 1, 1, 1), [(0, 0, 1), (1, 0, 0), (0, 1, 0)]),
        ])

    def test_box(self):
        self.assertEqual(faces_of(BOX), BOX_FACES)

    def test_pyramid(self):
        self.assertEqual(faces_of(PYRAMID), [
            ((-3, 0, 2, 6), [(-2, -2, 0), (0, 0, 3), (-2, 2, 0)]),
            ((0, -3, 2, 6), [(-2, -2, 0), (2, -2, 0), (0, 0, 3)]),
            ((0, 0, -1, 0), [(-2, -2, 0), (-2, 2, 0), (2, 2, 0), (2, -2, 0)]),
            ((0, 3, 2, 6), [(-2, 2, 0), (0, 0, 3), (2, 2, 0)]),
            ((3, 0, 2, 6), [(0, 0, 3), (2, -2, 0), (2, 2, 0)]),
        ])

    def test_slanted_face_with_six_corners(self):
        six = [face for face in faces_of(HEXAGON_TOWER) if len(face[1]) == 6]
        self.assertEqual(six, [
            ((-1, -1, -1, 0), [(-1, 0, 1), (-1, 1, 0), (0, 1, -1), (1, 0, -1), (1, -1, 0), (0, -1, 1)]),
        ])
        self.assertEqual(len(faces_of(HEXAGON_TOWER)), 7)

    def test_of_points_that_are_no_body(self):
        corners = [(0, 0, 0), (0, 0, 6), (0, 6, 0), (6, 0, 0)]
        expected = [
            ((-1, 0, 0, 0), [(0, 0, 0), (0, 0, 6), (0, 6, 0)]),
            ((0, -1, 0, 0), [(0, 0, 0), (6, 0, 0), (0, 0, 6)]),
            ((0, 0, -1, 0), [(0, 0, 0), (0, 6, 0), (6, 0, 0)]),
            ((1, 1, 1, 6), [(0, 0, 6), (6, 0, 0), (0, 6, 0)]),
        ]
        others = [(1, 1, 1), (2, 2, 2), (0, 1, 1), (3, 0, 3), (0, 0, 1), (0, 6, 0), (0, 0, 0), (1, 2, 3)]
        self.assertEqual(faces_of(corners), expected)
        self.assertEqual(faces_of(corners[::-1]), expected)
        for P in others:
            for k in range(5):
                self.assertEqual(faces_of(corners[:k] + [P] + corners[k:]), expected)
        self.assertEqual(faces_of(others + corners), expected)
        self.assertEqual(faces_of(corners + others), expected)
        self.assertEqual(faces_of(Dice(3).shuffled(others + corners)), expected)

    def test_many_points_on_one_face(self):
        grid = [(x, y, 0) for x in range(6) for y in range(6)]
        told = faces_of(grid + [(0, 0, 1), (2, 3, 0)])
        self.assertEqual([ring for plane, ring in told if plane == (0, 0, -1, 0)], [
            [(0, 0, 0), (0, 5, 0), (5, 5, 0), (5, 0, 0)],
        ])
        self.assertEqual(len(told), 5)
        cube = [(x, y, z) for x in range(3) for y in range(3) for z in range(3)]
        self.assertEqual(faces_of(cube), [
            (plane[:3] + (2 * plane[3],), [tuple(2 * n for n in P) for P in ring]) for plane, ring in BOX_FACES
        ])

    def test_all_bodies_hold(self):
        for label, corners in moved_bodies():
            with self.subTest(label):
                self.assert_faces_hold(corners)

    def test_more_points_hold(self):
        for corners in (TETRA, BOX, PYRAMID, HEXAGON_TOWER):
            more = with_more_points(corners)[0]
            for how, move in MOVES.items():
                with self.subTest(corners=corners, how=how):
                    points = [move(P) for P in more]
                    self.assert_faces_hold(points)
                    self.assertEqual(faces_of(points), faces_of(body_of(points)))

    def test_as_the_second_reckoning(self):
        counted = 0
        for points in thrown_lists(250, 12, 3) + thrown_lists(80, 12, 4) + thrown_lists(40, 12, 50):
            if slow_dimension(points) == 3:
                counted += 1
                self.assertEqual(faces_of(points), slow_faces(points))
        self.assertGreater(counted, 250)

    def test_moved_as_the_second_reckoning(self):
        for points in thrown_lists(12, 12, 3):
            if slow_dimension(points) == 3:
                for move in MOVES.values():
                    there = [move(P) for P in points]
                    self.assertEqual(faces_of(there), slow_faces(there))

    def test_forty_corners(self):
        self.assertEqual(len(faces_of(CURVE_FORTY)), 76)
        drum = faces_of(DRUM_FORTY)
        self.assertEqual(len(drum), 22)
        self.assertEqual(sorted(len(ring) for plane, ring in drum), [4] * 20 + [20] * 2)
        below = [ring for plane, ring in faces_of(BOWL_FORTY) if plane[2] < 0]
        self.assertEqual([len(ring) for ring in below], [4] * 28)

    def test_refusals(self):
        with self.assertRaises(NoPoints):
            faces_of([])
        for points in WITHOUT_ROOM:
            with self.subTest(points=points):
                with self.assertRaises(Flat):
                    faces_of(points)

    def test_kinds(self):
        told = faces_of(BOX)
        self.assertIs(type(told), list)
        for face in told:
            self.assertIs(type(face), tuple)
            self.assertEqual([type(part) for part in face], [tuple, list])
            self.assertEqual([type(n) for n in face[0]], [int] * 4)
            for P in face[1]:
                self.assertEqual([type(n) for n in P], [int] * 3)

    def test_a_hundred_figures(self):
        corners = [(-N, -N, -N), (-N, N, N), (N, -N, N), (N, N, -N)]
        self.assertEqual(faces_of(corners), [
            ((-1, -1, 1, N), [(-N, -N, -N), (N, -N, N), (-N, N, N)]),
            ((-1, 1, -1, N), [(-N, -N, -N), (-N, N, N), (N, N, -N)]),
            ((1, -1, -1, N), [(-N, -N, -N), (N, N, -N), (N, -N, N)]),
            ((1, 1, 1, N), [(-N, N, N), (N, -N, N), (N, N, -N)]),
        ])


if __name__ == "__main__":
    unittest.main()
