"""Points [13] and [14], and of [3] what it says of viewpoints: the sixfold room, its parts, and shadows."""

import unittest
from itertools import product

from stakebodies.bodies import body_of, faces_of
from stakebodies.edges import edges_of
from stakebodies.errors import BodyError, NoAxis
from stakebodies.rooms import rooms_seen, shadow_area, shadow_of, sixfold_room
from tests.shapes import (
    BIG_BOX, BODIES, BOWL_FORTY, BOX, CURVE_FORTY, DRUM_FORTY, HEXAGON_TOWER, HUGE, HUNDRED_FIGURES, MOVES, OCTAHEDRON,
    PRISM, PYRAMID, TETRA, Dice, determinant, far_off, folded, minus, mixed, moved_bodies, slanted, slow_dimension,
    slow_faces, slow_side, thrown_lists,
)

N = HUNDRED_FIGURES


class Equal:
    """Says of itself that it is equal to everything, and is no axis all the same."""

    def __eq__(self, other):
        return True

    def __hash__(self):
        return 0


NO_AXES = [
    3, -1, 4, -2, -3, 7, N, -N, 10 ** 400, 10 ** 5000, True, False, None, "", "0", "1", "x", [], [0], [1, 2], (), (0,),
    (0, 1, 2), {}, {0: 1}, {0}, frozenset(), 0.0, 1.0, 2.0, 0.5, float("nan"), float("inf"), 1j, b"", b"1", object(),
    int, len, range(3), Equal(), lambda: 0,
]
KNOWN_ROOMS = {
    "tetra": 1, "box": 6, "big box": 600, "pyramid": 96, "prism": 165, "octahedron": 8,
}


def slow_room(points):
    """All four-cornered bodies between the first point and the triangles of the faces, by determinants without sign."""
    apex = points[0]
    room = 0
    for plane, ring in slow_faces(points):
        for k in range(1, len(ring) - 1):
            room += abs(determinant(minus(ring[0], apex), minus(ring[k], apex), minus(ring[k + 1], apex)))
    return room


def viewpoints(land):
    """Points of a body whose numbers sixty divides, and about it."""
    faces = faces_of(land)
    apart = [P for P in land if P not in faces[0][1]][0]
    return {
        "inside": mixed(faces[0][1][:3] + [apart], [1, 2, 1, 1]),
        "on a face": mixed(faces[-1][1][:3], [1, 1, 1]),
        "on an edge": mixed(edges_of(land)[-1], [1, 1]),
        "at a corner": land[len(land) // 2],
        "at another corner": land[0],
        "just outside": (land[0][0] - 1, land[0][1], land[0][2]),
        "far outside": (N, -N, N - 1),
        "far outside, too": (-HUGE, 5, -N),
        "at the middle of space": (0, 0, 0),
    }


class Rooms(unittest.TestCase):
    def test_known_rooms(self):
        for name, room in KNOWN_ROOMS.items():
            with self.subTest(name):
                told = sixfold_room(BODIES[name])
                self.assertEqual(told, room)
                self.assertIs(type(told), int)

    def test_boxes(self):
        for a, b, c in product((1, 2, 7, N), repeat=3):
            land = body_of([(x, y, z) for x in (0, a) for y in (-b, 0) for z in (5, 5 + c)])
            self.assertEqual(sixfold_room(land), 6 * a * b * c)
            self.assertEqual(sixfold_room(sorted(slanted(P) for P in land)), 6 * a * b * c)

    def test_pyramids(self):
        for side, height in product((1, 3, 10 ** 50), (1, 4, 10 ** 60)):
            land = body_of([(0, 0, 0), (side, 0, 0), (0, side, 0), (side, side, 0), (7, 9, -height)])
            self.assertEqual(sixfold_room(land), 2 * side * side * height)

    def test_from_one_on(self):
        self.assertEqual(sixfold_room(TETRA), 1)
        for how, move in MOVES.items():
            self.assertEqual(sixfold_room(sorted(move(P) for P in TETRA)), 1)
        flat = [(0, 0, 0), (N, N - 1, 0), (N - 1, N - 2, 0), (0, 0, 1)]
        self.assertEqual(sixfold_room(sorted(flat)), 1)

    def test_moves_leave_the_room(self):
        rooms = {name: slow_room(body) for name, body in BODIES.items()}
        for name, body in BODIES.items():
            for how, move in MOVES.items():
                with self.subTest(name=name, how=how):
                    self.assertEqual(sixfold_room(sorted(move(P) for P in body)), rooms[name])
                    self.assertEqual(sixfold_room(folded([move(P) for P in body], -3)), 27 * rooms[name])

    def test_as_the_second_reckoning(self):
        for points in thrown_lists(120, 12, 5) + thrown_lists(20, 12, 10 ** 9):
            if slow_dimension(points) == 3:
                self.assertEqual(sixfold_room(body_of(points)), slow_room(points))


class Seen(unittest.TestCase):
    def assert_seen(self, land, V):
        told = rooms_seen(land, V)
        faces = faces_of(land)
        self.assertIs(type(told), list)
        self.assertEqual(len(told), len(faces))
        for room, (plane, ring) in zip(told, faces):
            self.assertIs(type(room), int)
            self.assertEqual((room > 0) - (room < 0), -slow_side(plane, V))
            parts = [
                determinant(minus(ring[k], ring[0]), minus(ring[k + 1], ring[0]), minus(V, ring[0]))
                for k in range(1, len(ring) - 1)
            ]
            self.assertEqual(room, -sum(parts))
        return told

    def test_box_from_inside_and_outside(self):
        land = folded(BOX, 2)
        self.assertEqual(rooms_seen(land, (1, 1, 1)), [8] * 6)
        self.assertEqual(rooms_seen(land, (0, 1, 1)), [0, 8, 8, 8, 8, 16])
        self.assertEqual(rooms_seen(land, (0, 0, 1)), [0, 0, 8, 8, 16, 16])
        self.assertEqual(rooms_seen(land, (0, 0, 0)), [0, 0, 0, 16, 16, 16])
        self.assertEqual(rooms_seen(land, (5, 1, 1)), [40, 8, 8, 8, 8, -24])
        self.assertEqual(rooms_seen(land, (N, 0, 0)), [8 * N, 0, 0, 16, 16, 16 - 8 * N])

    def test_tetra(self):
        self.assertEqual(rooms_seen(TETRA, (0, 0, 0)), [0, 0, 0, 1])
        self.assertEqual(rooms_seen(TETRA, (3, 4, 5)), [3, 4, 5, -11])
        self.assertEqual(rooms_seen(TETRA, (-3, -4, -5)), [-3, -4, -5, 13])

    def test_pyramid_in_the_order_of_faces(self):
        self.assertEqual(rooms_seen(PYRAMID, (0, 0, 1)), [16, 16, 32, 16, 16])
        self.assertEqual(rooms_seen(PYRAMID, (0, 0, 3)), [0, 0, 96, 0, 0])
        self.assertEqual(rooms_seen(PYRAMID, (1, 0, 1)), [28, 16, 32, 16, 4])

    def test_every_viewpoint_sees_the_same_room(self):
        for name, body in BODIES.items():
            for how in ("as it is", "slanted", "mirrored", "far off"):
                land = folded([MOVES[how](P) for P in body], 60)
                room = sixfold_room(land)
                self.assertGreater(room, 0)
                for where, V in viewpoints(land).items():
                    with self.subTest(name=name, how=how, where=where):
                        self.assertEqual(sum(self.assert_seen(land, V)), room)

    def test_each_sign_comes(self):
        for name in ("tetra", "box", "pyramid", "hexagon tower", "drum"):
            land = folded(BODIES[name], 60)
            found = viewpoints(land)
            self.assertGreater(min(rooms_seen(land, found["inside"])), 0)
            self.assertEqual(min(rooms_seen(land, found["on a face"])), 0)
            self.assertEqual(rooms_seen(land, found["on a face"]).count(0), 1)
            self.assertEqual(rooms_seen(land, found["on an edge"]).count(0), 2)
            self.assertGreater(rooms_seen(land, found["at a corner"]).count(0), 2)
            self.assertLess(min(rooms_seen(land, found["far outside"])), 0)

    def test_thrown_viewpoints(self):
        dice = Dice(12)
        for points in thrown_lists(60, 12, 4):
            if slow_dimension(points) == 3:
                land = body_of(points)
                for V in [dice.point(4), tuple(n - 20 for n in dice.point(40)), tuple(-n for n in dice.point(N))]:
                    self.assertEqual(sum(self.assert_seen(land, V)), sixfold_room(land))


def slow_turn(A, B, C):
    return (B[0] - A[0]) * (C[1] - A[1]) - (B[1] - A[1]) * (C[0] - A[0])


def slow_shadow(land, axis):
    """From the least on, each time to the farthest point that has all others to its left."""
    flat = sorted({tuple(n for k, n in enumerate(P) if k != axis) for P in land})
    ring = [flat[0]]
    while True:
        here = ring[-1]
        ahead = [B for B in flat if B != here and all(slow_turn(here, B, C) >= 0 for C in flat)]
        farthest = max(ahead, key=lambda B: (B[0] - here[0]) ** 2 + (B[1] - here[1]) ** 2)
        if farthest == ring[0]:
            return ring
        ring.append(farthest)


class Shadows(unittest.TestCase):
    def assert_shadow_holds(self, land, axis):
        told = shadow_of(land, axis)
        self.assertIs(type(told), list)
        for corner in told:
            self.assertIs(type(corner), tuple)
            self.assertEqual([type(n) for n in corner], [int, int])
        self.assertEqual(told, slow_shadow(land, axis))
        self.assertEqual(told[0], min(told))
        for k in range(len(told)):
            self.assertGreater(slow_turn(told[k - 2], told[k - 1], told[k]), 0)
        area = shadow_area(land, axis)
        self.assertIs(type(area), int)
        self.assertEqual(area, sum(slow_turn(told[0], told[k], told[k + 1]) for k in range(1, len(told) - 1)))
        self.assertGreater(area, 0)

    def test_big_box(self):
        self.assertEqual(shadow_of(BIG_BOX, 0), [(2, -5), (4, -5), (4, 0), (2, 0)])
        self.assertEqual(shadow_of(BIG_BOX, 1), [(-3, -5), (7, -5), (7, 0), (-3, 0)])
        self.assertEqual(shadow_of(BIG_BOX, 2), [(-3, 2), (7, 2), (7, 4), (-3, 4)])
        self.assertEqual([shadow_area(BIG_BOX, axis) for axis in (0, 1, 2)], [20, 100, 40])

    def test_pyramid(self):
        # Beneath its tip the base is the whole shadow; from the sides a triangle, with no corner on its foot.
        self.assertEqual(shadow_of(PYRAMID, 2), [(-2, -2), (2, -2), (2, 2), (-2, 2)])
        self.assertEqual(shadow_of(PYRAMID, 0), [(-2, 0), (2, 0), (0, 3)])
        self.assertEqual(shadow_of(PYRAMID, 1), [(-2, 0), (2, 0), (0, 3)])
        self.assertEqual([shadow_area(PYRAMID, axis) for axis in (0, 1, 2)], [12, 12, 32])

    def test_prism(self):
        self.assertEqual(shadow_of(PRISM, 0), [(0, 0), (3, 0), (3, 5), (0, 5)])
        self.assertEqual(shadow_of(PRISM, 1), [(0, 0), (4, 0), (4, 5), (0, 5)])
        self.assertEqual(shadow_of(PRISM, 2), [(0, 0), (4, 1), (1, 3)])
        self.assertEqual([shadow_area(PRISM, axis) for axis in (0, 1, 2)], [30, 40, 11])

    def test_corners_on_sides_are_none(self):
        # The shadows of two corners fall on the sides of the shadow of the others.
        land = [(0, 0, 0), (0, 0, 4), (0, 4, 0), (2, 2, 9), (4, 0, 0), (2, 0, 7)]
        self.assertEqual(shadow_of(body_of(land), 2), [(0, 0), (4, 0), (0, 4)])
        self.assertEqual(shadow_area(body_of(land), 2), 16)

    def test_octahedron_and_tower(self):
        for axis in (0, 1, 2):
            self.assertEqual(shadow_of(OCTAHEDRON, axis), [(-1, 0), (0, -1), (1, 0), (0, 1)])
            self.assertEqual(shadow_area(OCTAHEDRON, axis), 4)
        self.assertEqual(shadow_of(HEXAGON_TOWER, 2), [(-1, 0), (0, -1), (1, -1), (4, 5), (-1, 1)])

    def test_forty_corners(self):
        self.assertEqual(len(shadow_of(CURVE_FORTY, 2)), 40)
        self.assertEqual(len(shadow_of(DRUM_FORTY, 2)), 20)
        self.assertEqual(shadow_of(DRUM_FORTY, 1), [(-10, 0), (9, 0), (9, 9), (-10, 9)])
        self.assertEqual(shadow_of(BOWL_FORTY, 2), [(-2, -4), (2, -4), (2, 3), (-2, 3)])

    def test_all_bodies_hold(self):
        for label, land in moved_bodies():
            for axis in (0, 1, 2):
                with self.subTest(label=label, axis=axis):
                    self.assert_shadow_holds(land, axis)

    def test_thrown_bodies(self):
        for points in thrown_lists(150, 12, 3) + thrown_lists(50, 20, 30):
            if slow_dimension(points) == 3:
                for axis in (0, 1, 2):
                    self.assert_shadow_holds(body_of(points), axis)

    def test_a_hundred_figures(self):
        land = folded(BOX, N)
        self.assertEqual([shadow_area(land, axis) for axis in (0, 1, 2)], [2 * N * N] * 3)
        self.assertEqual(shadow_of(land, 1), [(0, 0), (N, 0), (N, N), (0, N)])
        self.assertEqual(shadow_area(sorted(far_off(P) for P in BOX), 0), 2)


class Axes(unittest.TestCase):
    def test_what_is_no_axis_is_refused(self):
        for axis in NO_AXES:
            with self.subTest(kind=axis.__class__.__name__):
                for ask in (shadow_of, shadow_area):
                    for land in (BOX, PYRAMID):
                        with self.assertRaises(NoAxis):
                            ask(land, axis)

    def test_it_is_a_refusal_of_the_program(self):
        for ask in (shadow_of, shadow_area):
            with self.assertRaises(BodyError):
                ask(BOX, 3)

    def test_the_three_are_not_refused(self):
        for axis in (0, 1, 2):
            self.assertEqual(len(shadow_of(BOX, axis)), 4)
            self.assertEqual(shadow_area(BOX, axis), 2)


if __name__ == "__main__":
    unittest.main()
