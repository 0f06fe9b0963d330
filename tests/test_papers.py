"""Points [11] and [12], and of [3] what it says of points: shares, planes beyond, just one of the two."""

import unittest
from functools import lru_cache
from itertools import permutations, product
from math import gcd

from stakebodies.bodies import body_of, faces_of
from stakebodies.edges import edges_of
from stakebodies.papers import plane_bars, plane_beyond, shares_of, shares_show
from tests.shapes import (
    BIG_BOX, BODIES, BOX, CURVE_FORTY, DRUM_FORTY, HEXAGON_TOWER, HUGE, HUNDRED_FIGURES, MOVES, OCTAHEDRON, PYRAMID,
    TETRA, Dice, come_to, folded, mixed, slow_dimension, slow_planes, slow_side, slow_where, thrown_lists,
)

N = HUNDRED_FIGURES
FOUR_HUNDRED = 10 ** 400 - 1
SIX = [(0, 0, 0), (0, 0, 6), (0, 6, 0), (6, 0, 0)]
JUST_OUTSIDE_SIX = {
    "beside a face": [(2, 2, 3), (3, 2, 2), (-1, 1, 1), (1, -1, 1), (1, 1, -1)],
    "beside an edge": [(4, 0, 3), (3, -1, 3), (-1, 0, 1), (0, -1, 3), (5, 0, -1), (3, -1, 4)],
    "beside a corner": [(-1, 0, 0), (0, -1, 0), (0, 0, -1), (7, 0, 0), (0, 7, 0), (0, 0, 7), (6, 0, 1), (-1, 0, 7)],
    "far off": [(100, 100, 100), (-100, -100, -100), (N, 0, 0), (0, -N, 0), (-N, N, 0), (N, N, -N)],
}


def places(land):
    """Points of a body whose numbers sixty divides, by where they lie."""
    faces = faces_of(land)
    apart = [P for P in land if P not in faces[0][1]][0]
    edges = edges_of(land)[:20]
    return {
        "corner": land,
        "edge": [mixed(edge, [1, 1]) for edge in edges] + [mixed(edge, [1, 4]) for edge in edges],
        "face": [mixed(ring, [1] * len(ring)) for plane, ring in faces[-12:]]
        + [mixed(ring[:3], [1, 1, 2]) for plane, ring in faces[:12]]
        + [mixed(ring[-3:], [3, 1, 1]) for plane, ring in faces[:12]],
        "inside": [mixed(ring[:3] + [apart], [1, 2, 1, 1]) for plane, ring in faces[:1]]
        + [mixed([mixed(ring, [1] * len(ring)), apart], [1, 2]) for plane, ring in faces[:1]]
        + [mixed([mixed(faces[0][1], [1] * len(faces[0][1])), P], [2, 1]) for P in land if P not in faces[0][1]],
    }


@lru_cache(maxsize=None)
def moved_places():
    return list(every_moved_place())


def every_moved_place():
    for name, body in BODIES.items():
        for how, move in MOVES.items():
            # Folded twice, so that what is mixed of mixed points is whole.
            land = sorted(move(P) for P in folded(body, 60 * 60))
            yield f"{name} {how}", land, places(land)


class SharesOf(unittest.TestCase):
    def assert_shares_hold(self, land, P):
        told = shares_of(land, P)
        self.assertIs(type(told), list)
        corners = [corner for corner, share in told]
        self.assertEqual(corners, sorted(set(corners)))
        self.assertLessEqual(set(corners), set(land))
        self.assertIn(len(corners), (1, 2, 3, 4))
        self.assertEqual(slow_dimension(corners), len(corners) - 1)
        for pair in told:
            self.assertEqual([type(part) for part in pair], [tuple, tuple])
            self.assertIs(type(pair), tuple)
            top, bottom = pair[1]
            self.assertEqual([type(top), type(bottom)], [int, int])
            self.assertGreater(top, 0)
            self.assertGreater(bottom, 0)
            self.assertEqual(gcd(top, bottom), 1)
        self.assertEqual(come_to(told), (1, P))
        self.assertIs(shares_show(land, P, told), True)
        return told

    def test_the_only_shares_of_four_corners(self):
        a, b, c, d = SIX
        self.assertEqual(shares_of(SIX, (1, 1, 1)), [(a, (1, 2)), (b, (1, 6)), (c, (1, 6)), (d, (1, 6))])
        self.assertEqual(shares_of(SIX, (1, 2, 2)), [(a, (1, 6)), (b, (1, 3)), (c, (1, 3)), (d, (1, 6))])
        self.assertEqual(shares_of(SIX, (1, 2, 3)), [(b, (1, 2)), (c, (1, 3)), (d, (1, 6))])
        self.assertEqual(shares_of(SIX, (0, 1, 1)), [(a, (2, 3)), (b, (1, 6)), (c, (1, 6))])
        self.assertEqual(shares_of(SIX, (4, 0, 2)), [(b, (1, 3)), (d, (2, 3))])
        self.assertEqual(shares_of(SIX, (0, 0, 5)), [(a, (1, 6)), (b, (5, 6))])

    def test_every_point_of_four_corners(self):
        for x, y, z in product(range(7), repeat=3):
            parts = [(SIX[0], 6 - x - y - z), (SIX[1], z), (SIX[2], y), (SIX[3], x)]
            expected = [(P, (n // gcd(n, 6), 6 // gcd(n, 6))) for P, n in parts if n > 0]
            self.assertEqual(shares_of(SIX, (x, y, z)), expected if x + y + z <= 6 else None)

    def test_corners_have_but_themselves(self):
        for label, land, found in moved_places():
            with self.subTest(label):
                for P in land:
                    self.assertEqual(shares_of(land, P), [(P, (1, 1))])

    def test_points_on_edges_have_but_its_ends(self):
        for label, land, found in moved_places():
            edges = edges_of(land)[:20]
            with self.subTest(label):
                for A, B in edges:
                    self.assertEqual(shares_of(land, mixed([A, B], [1, 1])), [(A, (1, 2)), (B, (1, 2))])
                    self.assertEqual(shares_of(land, mixed([A, B], [1, 4])), [(A, (1, 5)), (B, (4, 5))])

    def test_points_on_faces_have_corners_of_the_face(self):
        for label, land, found in moved_places():
            faces = faces_of(land)
            with self.subTest(label):
                for P in found["face"]:
                    told = self.assert_shares_hold(land, P)
                    for plane, ring in faces:
                        if slow_side(plane, P) == 0:
                            self.assertLessEqual({corner for corner, share in told}, set(ring))

    def test_points_inside(self):
        for label, land, found in moved_places():
            with self.subTest(label):
                self.assertGreater(len(found["inside"]), 2)
                for P in found["inside"]:
                    self.assert_shares_hold(land, P)
                    self.assertIsNone(plane_beyond(land, P))

    def test_faces_of_four_corners_and_more(self):
        sizes = set()
        for corners in (BOX, PYRAMID, HEXAGON_TOWER, DRUM_FORTY):
            land = folded(corners, 120)
            for plane, ring in faces_of(land):
                sizes.add(len(ring))
                for k in range(len(ring)):
                    three = [ring[k], ring[(k + 1) % len(ring)], ring[(k + 2) % len(ring)]]
                    for weights in ([1, 0, 1], [1, 1, 1], [1, 3, 1]):
                        self.assert_shares_hold(land, mixed(three, weights))
        self.assertEqual(sizes, {3, 4, 6, 20})

    def test_none_outside(self):
        for where, points in JUST_OUTSIDE_SIX.items():
            for P in points:
                for how, move in MOVES.items():
                    with self.subTest(where=where, P=P, how=how):
                        land = sorted(move(Q) for Q in SIX)
                        self.assertIsNone(shares_of(land, move(P)))
                        self.assertIsNotNone(plane_beyond(land, move(P)))

    def test_none_just_beside_faces_edges_and_corners_of_all_bodies(self):
        steps = [step for step in product((-1, 0, 1), repeat=3) if step != (0, 0, 0)]
        for name, corners in BODIES.items():
            land = folded(corners, 60 * 60)
            planes = [plane for plane, ring in faces_of(land)]
            found = places(land)
            for where in ("corner", "edge", "face"):
                outside = 0
                for P in found[where][:6]:
                    for step in steps:
                        beside = tuple(a + b for a, b in zip(P, step))
                        if slow_where(planes, beside) < 0:
                            outside += 1
                            self.assertIsNone(shares_of(land, beside))
                        else:
                            self.assert_shares_hold(land, beside)
                self.assertGreater(outside, 10, f"{name} {where}")

    def test_just_beside_with_a_hundred_figures(self):
        land = [(0, 0, 0), (0, 0, N), (0, N, 0), (N, 0, 0)]
        for P in ((1, 1, N - 3), (1, 1, N - 2), (0, 1, 1), (0, 1, N - 1), (0, 0, N), (1, N - 1, 0), (1, 1, 1)):
            self.assert_shares_hold(land, P)
        for P in ((1, 1, N - 1), (-1, 1, 1), (0, 0, N + 1), (0, 1, N), (0, -1, N), (N, N, N), (0, 0, -1)):
            self.assertIsNone(shares_of(land, P))

    def test_as_the_second_reckoning(self):
        dice = Dice(31)
        seen = set()
        for points in thrown_lists(80, 12, 6):
            if slow_dimension(points) == 3:
                land = body_of(points)
                planes = slow_planes(points)
                for P in [dice.point(6) for k in range(12)]:
                    where = slow_where(planes, P)
                    seen.add(where)
                    if where < 0:
                        self.assertIsNone(shares_of(land, P))
                    else:
                        self.assert_shares_hold(land, P)
        self.assertEqual(seen, {1, 0, -1})


class JustOne(unittest.TestCase):
    def test_all_about_bodies_just_one_paper_comes(self):
        for land in (SIX, folded(BOX, 2), PYRAMID, OCTAHEDRON, HEXAGON_TOWER, BIG_BOX, CURVE_FORTY[17:24]):
            planes = slow_planes(land)
            seen = set()
            for P in product(range(-4, 8), range(-3, 6), range(-6, 7)):
                where = slow_where(planes, P)
                seen.add(where)
                self.assertIs(shares_of(land, P) is None, where < 0)
                self.assertIs(plane_beyond(land, P) is None, where >= 0)
            self.assertIn(0, seen)
            self.assertIn(-1, seen)

    def test_bodies_of_forty_corners(self):
        dice = Dice(8)
        for name in ("curve", "bowl", "drum"):
            land = BODIES[name]
            seen = set()
            for k in range(60):
                P = (dice.below(9) - 4, dice.below(24) - 2, dice.below(24) - 6)
                shares, plane = shares_of(land, P), plane_beyond(land, P)
                self.assertNotEqual(shares is None, plane is None)
                seen.add(shares is None)
                if shares is not None:
                    self.assertIs(shares_show(land, P, shares), True)
                else:
                    self.assertIs(plane_bars(land, P, plane), True)
            self.assertEqual(seen, {True, False}, name)

    def test_no_point_has_both_papers(self):
        for land in (SIX, PYRAMID, OCTAHEDRON):
            planes = list(product((-1, 0, 2), (-2, 0, 1), (-1, 1), (-3, 0, 2, 9)))
            for P in product(range(-3, 7), repeat=3):
                shares = shares_of(land, P)
                if shares is not None:
                    self.assertFalse(any(plane_bars(land, P, plane) for plane in planes))


class SharesShow(unittest.TestCase):
    EIGHT = [(P, (1, 8)) for P in folded(BOX, 2)]

    def test_any_order(self):
        a, b, c, d = SIX
        pairs = [(a, (1, 6)), (b, (1, 3)), (c, (1, 3)), (d, (1, 6))]
        for order in permutations(pairs):
            self.assertIs(shares_show(SIX, (1, 2, 2), list(order)), True)
            for P in ((1, 2, 1), (2, 2, 2), (0, 0, 0), (1, 2, 3), (-1, -2, -2)):
                self.assertIs(shares_show(SIX, P, list(order)), False)

    def test_any_number_also_on_a_plane_or_a_line(self):
        land = folded(BOX, 2)
        self.assertIs(shares_show(land, (1, 1, 1), self.EIGHT), True)
        self.assertIs(shares_show(land, (1, 1, 1), self.EIGHT[::-1]), True)
        self.assertIs(shares_show(land, (1, 1, 1), [(land[0], (1, 2)), (land[7], (1, 2))]), True)
        self.assertIs(shares_show(land, (0, 1, 1), [(P, (1, 4)) for P in land[:4]]), True)
        self.assertIs(shares_show(land, (0, 0, 1), [(P, (1, 2)) for P in land[:2]]), True)
        self.assertIs(shares_show(land, (2, 0, 2), [((2, 0, 2), (1, 1))]), True)
        forty = [(P, (1, 40)) for P in folded(CURVE_FORTY, 40)]
        self.assertIs(shares_show(folded(CURVE_FORTY, 40), mixed([P for P, share in forty], [1] * 40), forty), True)

    def test_unlike_bottoms(self):
        land = folded(OCTAHEDRON, 60)
        pairs = [((60, 0, 0), (1, 2)), ((-60, 0, 0), (1, 3)), ((0, 60, 0), (1, 10)), ((0, 0, -60), (1, 15))]
        self.assertIs(shares_show(land, (10, 6, -4), pairs), True)
        self.assertIs(shares_show(land, (10, 6, 4), pairs), False)
        for k in range(4):
            self.assertIs(shares_show(land, (10, 6, -4), pairs[:k] + pairs[k + 1:]), False)

    def test_no_corner(self):
        for P in ((1, 1, 1), (2, 2, 2), (0, 1, 1), (3, 0, 3), (0, 0, 1), (7, 7, 7)):
            self.assertIs(shares_show(SIX, P, [(P, (1, 1))]), False)
        # All else is right: two points that come to the one between them.
        self.assertIs(shares_show(SIX, (0, 0, 3), [((0, 0, 2), (1, 2)), ((0, 0, 4), (1, 2))]), False)
        self.assertIs(shares_show(SIX, (0, 0, 3), [((0, 0, 0), (1, 4)), ((0, 0, 4), (3, 4))]), False)
        self.assertIs(shares_show(SIX, (0, 0, 3), [((0, 0, 0), (1, 2)), ((0, 0, 6), (1, 2))]), True)

    def test_a_corner_twice(self):
        a, b, c, d = SIX
        self.assertIs(shares_show(SIX, b, [(b, (1, 2)), (b, (1, 2))]), False)
        self.assertIs(shares_show(SIX, b, [(b, (1, 3)), (b, (2, 3))]), False)
        self.assertIs(shares_show(SIX, (0, 0, 3), [(a, (1, 4)), (b, (1, 2)), (a, (1, 4))]), False)
        self.assertIs(shares_show(SIX, (0, 0, 3), [(a, (1, 2)), (b, (1, 2))]), True)

    def test_shares_of_naught_or_below(self):
        a, b, c, d = SIX
        self.assertIs(shares_show(SIX, b, [(b, (1, 1))]), True)
        for more in (a, c, d):
            self.assertIs(shares_show(SIX, b, [(b, (1, 1)), (more, (0, 1))]), False)
            self.assertIs(shares_show(SIX, b, [(more, (0, 1)), (b, (1, 1))]), False)
        self.assertIs(shares_show(SIX, (0, 0, 12), [(a, (-1, 1)), (b, (2, 1))]), False)
        # Below naught, and yet they come to a point of the body.
        box = folded(BOX, 2)
        pairs = [((0, 0, 0), (1, 1)), ((0, 0, 2), (-1, 2)), ((0, 2, 0), (-1, 2)), ((0, 2, 2), (1, 1))]
        self.assertEqual(come_to(pairs), (1, (0, 1, 1)))
        self.assertIs(shares_show(box, (0, 1, 1), pairs), False)

    def test_shares_that_do_not_come_to_one(self):
        a, b, c, d = SIX
        self.assertIs(shares_show(SIX, (0, 0, 3), [(b, (1, 2))]), False)
        self.assertIs(shares_show(SIX, (0, 0, 3), [(a, (2, 3)), (b, (1, 2))]), False)
        self.assertIs(shares_show(SIX, (0, 0, 12), [(b, (2, 1))]), False)
        land = folded(OCTAHEDRON, 4)
        for share, shown in (((1, 2), True), ((1, 4), False), ((1, 3), False), ((1, 1), False), ((2, 3), False)):
            self.assertIs(shares_show(land, (0, 0, 0), [((4, 0, 0), share), ((-4, 0, 0), share)]), shown)

    def test_shares_that_do_not_come_to_the_point(self):
        for P in product(range(-1, 4), repeat=3):
            self.assertIs(shares_show(folded(BOX, 2), P, self.EIGHT), P == (1, 1, 1))
        a, b, c, d = SIX
        for P in ((1, 0, 3), (0, 1, 3), (0, 0, 4), (0, 0, 2), (0, 0, 0)):
            self.assertIs(shares_show(SIX, P, [(a, (1, 2)), (b, (1, 2))]), False)

    def test_none_at_all(self):
        for P in ((0, 0, 0), (1, 1, 1), (6, 0, 0), (9, 9, 9)):
            self.assertIs(shares_show(SIX, P, []), False)
        self.assertIs(shares_show(OCTAHEDRON, (0, 0, 0), []), False)

    def test_four_hundred_figures(self):
        land = folded(OCTAHEDRON, HUGE)
        M = FOUR_HUNDRED
        pairs = [((HUGE, 0, 0), (M // 2, M)), ((-HUGE, 0, 0), (M // 2, M)), ((0, 0, HUGE), (1, M))]
        self.assertEqual(come_to(pairs)[0], 1)
        self.assertIs(shares_show(land, (0, 0, 0), pairs), False)
        pairs = pairs[:2] + [((0, 0, HUGE), (1, 2 * M)), ((0, 0, -HUGE), (1, 2 * M))]
        self.assertIs(shares_show(land, (0, 0, 0), pairs), True)
        self.assertIs(shares_show(land, (0, 0, 1), pairs), False)
        pairs = pairs[:2] + [((0, 0, HUGE), (1, 2 * M)), ((0, 0, -HUGE), (1, 2 * M - 1))]
        self.assertIs(shares_show(land, (0, 0, 0), pairs), False)

    def test_forty_unlike_bottoms_of_many_figures(self):
        land = folded(CURVE_FORTY, 1)
        bottoms = [10 ** 399 + k for k in range(40)]
        self.assertIs(shares_show(land, (0, 1, 0), [(P, (1, n)) for P, n in zip(land, bottoms)]), False)


class PlaneBeyond(unittest.TestCase):
    def assert_plane_holds(self, land, P):
        told = plane_beyond(land, P)
        self.assertIs(type(told), tuple)
        self.assertIn(told, [plane for plane, ring in faces_of(land)])
        self.assertEqual(slow_side(told, P), 1)
        self.assertIs(plane_bars(land, P, told), True)
        return told

    def test_the_only_plane(self):
        self.assertEqual(plane_beyond(SIX, (2, 2, 3)), (1, 1, 1, 6))
        self.assertEqual(plane_beyond(SIX, (1, 1, -1)), (0, 0, -1, 0))
        self.assertEqual(plane_beyond(SIX, (1, -1, 1)), (0, -1, 0, 0))
        self.assertEqual(plane_beyond(SIX, (-N, 1, N)), (-1, 0, 0, 0))
        self.assertEqual(plane_beyond(PYRAMID, (0, 0, -1)), (0, 0, -1, 0))
        self.assertEqual(plane_beyond(PYRAMID, (2, 0, 1)), (3, 0, 2, 6))

    def test_outside(self):
        for points in JUST_OUTSIDE_SIX.values():
            for P in points:
                for move in MOVES.values():
                    self.assert_plane_holds(sorted(move(Q) for Q in SIX), move(P))

    def test_far_outside_of_all_bodies(self):
        for label, land, found in moved_places():
            with self.subTest(label):
                far = tuple(2 * a - b for a, b in zip(land[-1], land[0]))
                self.assert_plane_holds(land, far)
                self.assertIsNone(shares_of(land, far))

    def test_none_on_the_rim_and_inside(self):
        for label, land, found in moved_places():
            with self.subTest(label):
                for points in found.values():
                    for P in points[:6]:
                        self.assertIsNone(plane_beyond(land, P))


class PlaneBars(unittest.TestCase):
    def test_with_and_without_a_common_divisor(self):
        for k in (1, 2, 3, 10, FOUR_HUNDRED):
            plane = tuple(k * n for n in (1, 1, 1, 6))
            self.assertIs(plane_bars(SIX, (2, 2, 3), plane), True)
            self.assertIs(plane_bars(SIX, (2, 2, 2), plane), False)
            self.assertIs(plane_bars(SIX, (1, 1, 1), plane), False)
        # Between the whole points that a plane without a divisor can reach.
        self.assertIs(plane_bars(SIX, (2, 2, 3), (2, 2, 2, 13)), True)
        self.assertIs(plane_bars(SIX, (2, 2, 2), (2, 2, 2, 11)), False)
        self.assertIs(plane_bars(SIX, (2, 2, 3), (2, 2, 2, 11)), False)

    def test_a_corner_above(self):
        self.assertIs(plane_bars(SIX, (9, 9, 9), (1, 1, 1, 5)), False)
        self.assertIs(plane_bars(SIX, (9, 9, 9), (1, 0, 0, 5)), False)
        self.assertIs(plane_bars(SIX, (9, 9, 9), (1, 2, 1, 11)), False)
        self.assertIs(plane_bars(SIX, (9, 9, 9), (1, 2, 1, 12)), True)
        for k in range(8):
            # Of the eight corners just the one lies above.
            land = folded(BOX, 2)
            upright = tuple(n - 1 for n in land[k])
            self.assertIs(plane_bars(land, tuple(3 * n - 2 for n in land[k]), upright + (sum(upright) + 2,)), False)
            self.assertIs(plane_bars(land, tuple(3 * n - 2 for n in land[k]), upright + (sum(upright) + 3,)), True)

    def test_the_point_on_beneath_and_above(self):
        plane = (1, 0, 0, 8)
        for x, barred in ((7, False), (8, False), (9, True), (N, True), (-N, False), (0, False)):
            self.assertIs(plane_bars(SIX, (x, 1, -5), plane), barred)
        self.assertIs(plane_bars(SIX, (-1, 0, 0), (-1, 0, 0, 0)), True)
        self.assertIs(plane_bars(SIX, (0, 0, 0), (-1, 0, 0, 0)), False)
        self.assertIs(plane_bars(SIX, (-1, 0, 0), (1, 0, 0, 0)), False)

    def test_many_figures(self):
        land = folded(BOX, N)
        self.assertIs(plane_bars(land, (N, N + 1, 0), (FOUR_HUNDRED, FOUR_HUNDRED, 0, 2 * N * FOUR_HUNDRED)), True)
        self.assertIs(plane_bars(land, (N, N, 0), (FOUR_HUNDRED, FOUR_HUNDRED, 0, 2 * N * FOUR_HUNDRED)), False)
        self.assertIs(plane_bars(land, (N, N + 1, 0), (FOUR_HUNDRED, FOUR_HUNDRED, 0, 2 * N * FOUR_HUNDRED - 1)), False)

    def test_as_the_second_reckoning(self):
        dice = Dice(77)
        seen = set()
        for k in range(600):
            plane = tuple(n - 2 for n in dice.point(5)) + (dice.below(9) - 2,)
            P = tuple(n - 3 for n in dice.point(8))
            if plane[:3] != (0, 0, 0):
                for land in (TETRA, PYRAMID, OCTAHEDRON):
                    barred = slow_side(plane, P) > 0 and max(slow_side(plane, Q) for Q in land) <= 0
                    seen.add(barred)
                    self.assertIs(plane_bars(land, P, plane), barred)
        self.assertEqual(seen, {True, False})


if __name__ == "__main__":
    unittest.main()
