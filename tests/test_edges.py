"""Points [9] and [10], and of [3] what it says of edges: edges, and where points lie."""

import unittest

from stakebodies.bodies import body_of, faces_of
from stakebodies.edges import edges_of, where_in
from tests.shapes import (
    BIG_BOX, BODIES, BOX, CURVE_FORTY, DRUM_FORTY, HUNDRED_FIGURES, MOVES, OCTAHEDRON, PYRAMID, TETRA, Dice,
    moved_bodies, slow_dimension, slow_faces, slow_planes, slow_side, thrown_lists,
)

N = HUNDRED_FIGURES


def neighbours(ring):
    return {frozenset((ring[k - 1], ring[k])) for k in range(len(ring))}


class Edges(unittest.TestCase):
    def assert_edges_hold(self, land):
        told = edges_of(land)
        faces = faces_of(land)
        self.assertEqual(told, sorted(told))
        self.assertEqual(len(told), len(set(told)))
        for lesser, greater in told:
            self.assertLess(lesser, greater)
            self.assertIn(lesser, land)
            self.assertIn(greater, land)
            holding = [plane for plane, ring in faces if {lesser, greater} <= set(ring)]
            self.assertEqual(len(holding), 2)
            beside = [plane for plane, ring in faces if frozenset((lesser, greater)) in neighbours(ring)]
            self.assertEqual(holding, beside)
        self.assertEqual(len(land) + len(faces), len(told) + 2)
        in_rings = {pair for plane, ring in faces for pair in neighbours(ring)}
        self.assertEqual({frozenset(edge) for edge in told}, in_rings)

    def test_tetra(self):
        a, b, c, d = TETRA
        self.assertEqual(edges_of(TETRA), [(a, b), (a, c), (a, d), (b, c), (b, d), (c, d)])

    def test_box(self):
        self.assertEqual(edges_of(BOX), [
            ((0, 0, 0), (0, 0, 1)), ((0, 0, 0), (0, 1, 0)), ((0, 0, 0), (1, 0, 0)),
            ((0, 0, 1), (0, 1, 1)), ((0, 0, 1), (1, 0, 1)),
            ((0, 1, 0), (0, 1, 1)), ((0, 1, 0), (1, 1, 0)),
            ((0, 1, 1), (1, 1, 1)),
            ((1, 0, 0), (1, 0, 1)), ((1, 0, 0), (1, 1, 0)),
            ((1, 0, 1), (1, 1, 1)),
            ((1, 1, 0), (1, 1, 1)),
        ])

    def test_pyramid(self):
        self.assertEqual(edges_of(PYRAMID), [
            ((-2, -2, 0), (-2, 2, 0)), ((-2, -2, 0), (0, 0, 3)), ((-2, -2, 0), (2, -2, 0)),
            ((-2, 2, 0), (0, 0, 3)), ((-2, 2, 0), (2, 2, 0)),
            ((0, 0, 3), (2, -2, 0)), ((0, 0, 3), (2, 2, 0)),
            ((2, -2, 0), (2, 2, 0)),
        ])

    def test_counts(self):
        counts = {"tetra": 6, "box": 12, "big box": 12, "pyramid": 8, "prism": 9, "octahedron": 12,
                  "hexagon tower": 12, "curve": 114, "drum": 60}
        for name, count in counts.items():
            with self.subTest(name):
                self.assertEqual(len(edges_of(BODIES[name])), count)

    def test_all_bodies_hold(self):
        for label, corners in moved_bodies():
            with self.subTest(label):
                self.assert_edges_hold(corners)

    def test_thrown_bodies(self):
        for points in thrown_lists(150, 12, 3) + thrown_lists(50, 20, 30):
            if slow_dimension(points) == 3:
                land = body_of(points)
                self.assert_edges_hold(land)

    def test_as_the_second_reckoning(self):
        for points in thrown_lists(60, 10, 4):
            if slow_dimension(points) == 3:
                pairs = {tuple(sorted(pair)) for plane, ring in slow_faces(points) for pair in neighbours(ring)}
                self.assertEqual(edges_of(body_of(points)), sorted(pairs))

    def test_kinds(self):
        told = edges_of(BOX)
        self.assertIs(type(told), list)
        for edge in told:
            self.assertIs(type(edge), tuple)
            self.assertEqual(len(edge), 2)
            for P in edge:
                self.assertIs(type(P), tuple)
                self.assertEqual([type(n) for n in P], [int] * 3)


class Places(unittest.TestCase):
    # By a body with the corners (0, 0, 0), (0, 0, 6), (0, 6, 0), (6, 0, 0).
    LAND = [(0, 0, 0), (0, 0, 6), (0, 6, 0), (6, 0, 0)]
    INSIDE = [(1, 1, 1), (2, 1, 1), (1, 2, 2), (1, 3, 1), (1, 1, 3)]
    ON_FACES = [(2, 2, 2), (1, 2, 3), (0, 1, 1), (0, 2, 3), (1, 0, 1), (1, 1, 0), (4, 1, 0)]
    ON_EDGES = [(3, 0, 3), (0, 5, 1), (0, 0, 1), (0, 3, 0), (5, 0, 0), (1, 5, 0)]
    OUTSIDE = [
        (2, 2, 3), (3, 2, 2), (-1, 1, 1), (1, -1, 1), (1, 1, -1),
        (4, 0, 3), (3, -1, 3), (-1, 0, 1), (0, -1, 3), (5, 0, -1), (3, -1, 4),
        (-1, 0, 0), (0, -1, 0), (0, 0, -1), (7, 0, 0), (0, 7, 0), (0, 0, 7), (6, 0, 1), (6, -1, 0), (-1, 0, 7),
        (100, 100, 100), (-100, -100, -100), (N, 0, 0), (0, -N, 0), (-N, N, 0), (N, N, -N),
    ]

    def test_places(self):
        for place, points in ((1, self.INSIDE), (0, self.ON_FACES + self.ON_EDGES + self.LAND), (-1, self.OUTSIDE)):
            for P in points:
                for how, move in MOVES.items():
                    with self.subTest(P=P, how=how):
                        told = where_in(sorted(move(Q) for Q in self.LAND), move(P))
                        self.assertEqual(told, place)
                        self.assertIs(type(told), int)

    def test_corners_and_middles_of_edges_are_on_the_rim(self):
        for name in ("tetra", "box", "pyramid", "octahedron", "curve", "drum"):
            land = [tuple(2 * n for n in P) for P in BODIES[name]]
            for P in land:
                self.assertEqual(where_in(land, P), 0)
            for A, B in edges_of(land)[:30]:
                self.assertEqual(where_in(land, tuple((a + b) // 2 for a, b in zip(A, B))), 0)

    def test_on_the_plane_of_a_face_but_off_the_face(self):
        for P in ((2, 0, 0), (0, 5, 1), (1, 1, 2), (-1, 0, 1), (10, 0, -9)):
            self.assertEqual(where_in(BOX, P), -1)
        for P in ((0, 0, 2), (1, 1, -1), (2, -1, 0), (N, 0, 1 - N)):
            self.assertEqual(where_in(OCTAHEDRON, P), -1)

    def test_the_points_about_a_box(self):
        for x in range(-5, 9):
            for y in range(1, 6):
                for z in range(-7, 3):
                    inside = -3 < x < 7 and 2 < y < 4 and -5 < z < 0
                    within = -3 <= x <= 7 and 2 <= y <= 4 and -5 <= z <= 0
                    self.assertEqual(where_in(BIG_BOX, (x, y, z)), 1 if inside else 0 if within else -1)

    def test_just_beside_with_a_hundred_figures(self):
        land = [(0, 0, 0), (0, 0, N), (0, N, 0), (N, 0, 0)]
        for P, place in (
            ((1, 1, N - 3), 1), ((1, 1, N - 2), 0), ((1, 1, N - 1), -1), ((0, 1, 1), 0), ((-1, 1, 1), -1),
            ((0, 0, N), 0), ((0, 0, N + 1), -1), ((0, 1, N - 1), 0), ((0, 1, N), -1), ((N, N, N), -1),
        ):
            self.assertEqual(where_in(land, P), place)

    def test_forty_corners(self):
        self.assertEqual(where_in(DRUM_FORTY, (0, 1, 1)), 1)
        self.assertEqual(where_in(DRUM_FORTY, (0, 1, 0)), 0)
        self.assertEqual(where_in(DRUM_FORTY, (0, 1, -1)), -1)
        self.assertEqual(where_in(DRUM_FORTY, (0, -1, 1)), -1)
        self.assertEqual(where_in(CURVE_FORTY, (0, 1, 0)), 1)
        self.assertEqual(where_in(CURVE_FORTY, (0, -1, 0)), -1)

    def test_as_the_second_reckoning(self):
        dice = Dice(5)
        seen = set()
        for points in thrown_lists(60, 10, 6):
            if slow_dimension(points) == 3:
                planes = slow_planes(points)
                for P in [dice.point(6) for k in range(12)]:
                    expected = -max(slow_side(plane, P) for plane in planes)
                    seen.add(expected)
                    self.assertEqual(where_in(body_of(points), P), expected)
        self.assertEqual(seen, {1, 0, -1})


if __name__ == "__main__":
    unittest.main()
