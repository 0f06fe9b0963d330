"""Points [16] and [17], and of [3] what it says of two bodies: a point that both have, or a plane that parts them."""

import unittest
from fractions import Fraction
from itertools import product
from math import gcd

from stakebodies.bodies import body_of
from stakebodies.meetings import meeting_of, parting_of
from tests.shapes import (
    BODIES, BOX, BOWL_FORTY, CURVE_FORTY, DRUM_FORTY, HUGE, HUNDRED_FIGURES, MOVES, OCTAHEDRON, PYRAMID, TETRA, Dice,
    come_to, folded, slow_dimension, slow_side, thrown_lists,
)

N = HUNDRED_FIGURES


def put_off(land, way):
    return sorted(tuple(a + b for a, b in zip(P, way)) for P in land)


def box(low, high):
    return body_of([(x, y, z) for x in (low[0], high[0]) for y in (low[1], high[1]) for z in (low[2], high[2])])


# Above the plane z = 0 with an edge on it, and beneath it with an edge across that one.
ROOF = body_of([(0, 0, 0), (3, 3, 0), (0, 1, 5), (1, 0, 5)])
KEEL = body_of([(1, 0, 0), (0, 2, 0), (0, 0, -4), (2, 2, -7)])
# Its corner (0, 0, 0) alone has x + y less than 1.
SPIKE = body_of([(0, 0, 0), (2, 1, 0), (1, 2, 0), (2, 2, 3)])

MEETING = {
    "within": (folded(BOX, 10), box((3, 4, 5), (6, 7, 8))),
    "within, of another shape": (folded(OCTAHEDRON, 10), put_off(TETRA, (1, 1, 1))),
    "the same": (PYRAMID, PYRAMID),
    "crossing in corners": (box((0, 0, 0), (4, 4, 4)), box((3, 3, 3), (7, 7, 7))),
    "crossing like beams": (box((-9, 0, 0), (9, 1, 1)), box((0, -9, 0), (1, 9, 1))),
    "crossing, no corner in the other": (box((-9, -1, -1), (9, 1, 1)), box((-2, -9, -2), (2, 9, 2))),
    "crossing in a hair": (TETRA, body_of([(1, 1, 1), (0, 0, 0), (1, 1, 2), (1, 2, 1)])),
    "a whole face": (BOX, put_off(BOX, (1, 0, 0))),
    "a part of a face": (folded(BOX, 4), box((4, 1, 1), (6, 9, 2))),
    "faces that cross": (folded(TETRA, 6), body_of([(-1, 1, 0), (5, 1, 0), (1, 5, 0), (2, 2, -3)])),
    "a whole edge": (BOX, put_off(BOX, (1, 1, 0))),
    "a part of an edge": (folded(BOX, 4), box((4, 4, 1), (5, 5, 9))),
    "an edge on a face": (folded(BOX, 4), body_of([(4, 1, 1), (4, 3, 2), (6, 1, 1), (7, 2, 5)])),
    "one corner on one corner": (BOX, put_off(BOX, (1, 1, 1))),
    "one corner on an edge": (folded(BOX, 4), put_off(SPIKE, (4, 4, 1))),
    "one corner on a face": (folded(BOX, 4), put_off(SPIKE, (4, 2, 1))),
    "edges across one another": (ROOF, KEEL),
}
PARTED = {
    "beside a face": (BOX, put_off(BOX, (2, 0, 0))),
    "beside a face, slanted": (folded(TETRA, 6), body_of([(3, 3, 1), (3, 1, 3), (1, 3, 3), (5, 5, 5)])),
    "beside an edge": (BOX, put_off(BOX, (2, 2, 0))),
    "beside a corner": (BOX, put_off(BOX, (2, 2, 2))),
    "one corner beside a face": (folded(BOX, 4), put_off(SPIKE, (5, 2, 1))),
    "one corner beside an edge": (folded(OCTAHEDRON, 3), put_off(SPIKE, (2, 2, 0))),
    "edges across one another": (ROOF, put_off(KEEL, (0, 0, -1))),
    "edges that pass by": (ROOF, put_off(KEEL, (9, -9, 0))),
    "beams above one another": (box((-9, 0, 0), (9, 1, 1)), box((0, -9, 2), (1, 9, 3))),
    "far apart": (TETRA, put_off(PYRAMID, (-1000, 2000, 3000))),
    "very far apart": (put_off(TETRA, (N - 1, 0, -N)), put_off(PYRAMID, (-N, 5, N - 9))),
    "a part of space between": (folded(OCTAHEDRON, 2), put_off(folded(OCTAHEDRON, 2), (3, 3, 0))),
}


class TwoBodies(unittest.TestCase):
    def assert_shares_hold(self, land, shares):
        self.assertIs(type(shares), list)
        corners = [corner for corner, share in shares]
        self.assertEqual(corners, sorted(set(corners)))
        self.assertLessEqual(set(corners), set(land))
        for pair in shares:
            self.assertIs(type(pair), tuple)
            self.assertEqual([type(part) for part in pair], [tuple, tuple])
            top, bottom = pair[1]
            self.assertEqual([type(top), type(bottom)], [int, int])
            self.assertGreater(top, 0)
            self.assertGreater(bottom, 0)
            self.assertEqual(gcd(top, bottom), 1)
        whole, point = come_to(shares)
        self.assertEqual(whole, 1)
        return point

    def assert_meet(self, one, other):
        told = meeting_of(one, other)
        self.assertIs(type(told), tuple)
        self.assertEqual(len(told), 2)
        point = self.assert_shares_hold(one, told[0])
        self.assertEqual(self.assert_shares_hold(other, told[1]), point)
        self.assertIsNone(parting_of(one, other))
        return point

    def assert_parted(self, one, other):
        told = parting_of(one, other)
        self.assertIs(type(told), tuple)
        self.assertEqual([type(n) for n in told], [int] * 4)
        self.assertEqual(gcd(*told[:3]), 1)
        self.assertTrue(all(slow_side(told, P) <= 0 for P in one))
        self.assertTrue(all(slow_side(told, Q) == 1 for Q in other))
        self.assertIsNone(meeting_of(one, other))

    def assert_just_one(self, one, other):
        """Told papers that hold by the numbers show of themselves which of the two it is."""
        meet = meeting_of(one, other) is not None
        if meet:
            self.assert_meet(one, other)
        else:
            self.assert_parted(one, other)
        return meet


class Meetings(TwoBodies):
    def test_they_meet_also_the_other_way_about(self):
        for what, (one, other) in MEETING.items():
            for how, move in MOVES.items():
                with self.subTest(what=what, how=how):
                    there, yonder = sorted(move(P) for P in one), sorted(move(Q) for Q in other)
                    self.assert_meet(there, yonder)
                    self.assert_meet(yonder, there)

    def test_the_only_common_point(self):
        for what, point in (
            ("one corner on one corner", (1, 1, 1)), ("one corner on an edge", (4, 4, 1)),
            ("one corner on a face", (4, 2, 1)), ("edges across one another", (Fraction(2, 3), Fraction(2, 3), 0)),
        ):
            one, other = MEETING[what]
            self.assertEqual(self.assert_meet(one, other), point)
            self.assertEqual(self.assert_meet(other, one), point)

    def test_the_only_meeting(self):
        self.assertEqual(meeting_of(BOX, put_off(BOX, (1, 1, 1))), ([((1, 1, 1), (1, 1))], [((1, 1, 1), (1, 1))]))
        of_roof = [((0, 0, 0), (7, 9)), ((3, 3, 0), (2, 9))]
        of_keel = [((0, 2, 0), (1, 3)), ((1, 0, 0), (2, 3))]
        self.assertEqual(meeting_of(ROOF, KEEL), (of_roof, of_keel))
        self.assertEqual(meeting_of(KEEL, ROOF), (of_keel, of_roof))

    def test_common_points_in_fractions_of_many_figures(self):
        for a, b in ((1, 1), (2, 3), (7, 10 ** 40), (N, N - 1), (10 ** 50 + 1, 10 ** 49)):
            one = body_of([(-a, 0, 0), (b, 1, 0), (0, 0, 1), (0, 1, 2)])
            other = body_of([(0, -1, 0), (0, 3, 0), (1, 0, -3), (2, 0, -4)])
            point = self.assert_meet(one, other)
            self.assertEqual(point, (0, Fraction(a, a + b), 0))
            self.assert_parted(one, put_off(other, (0, 0, -1)))
            self.assert_meet(one, put_off(other, (0, 0, 1)))

    def test_a_body_with_itself_folded(self):
        for name, land in BODIES.items():
            with self.subTest(name):
                self.assert_meet(land, land)
                self.assert_just_one(land, folded(land, -1))
                self.assert_just_one(land, folded(land, 3))


class Partings(TwoBodies):
    def test_they_are_parted_also_the_other_way_about(self):
        for what, (one, other) in PARTED.items():
            for how, move in MOVES.items():
                with self.subTest(what=what, how=how):
                    there, yonder = sorted(move(P) for P in one), sorted(move(Q) for Q in other)
                    self.assert_parted(there, yonder)
                    self.assert_parted(yonder, there)

    def test_a_hair_between_bodies_of_a_hundred_figures(self):
        one = [(0, 0, 0), (0, 0, N), (0, N, 0), (N, 0, 0)]
        for P, meet in (((1, 1, N - 2), True), ((1, 1, N - 1), False), ((0, 1, N - 1), True), ((0, 1, N), False)):
            # A needle that has the point as its lowest corner.
            needle = body_of([P] + [tuple(a + b for a, b in zip(P, way)) for way in ((1, 1, 1), (1, 2, 1), (2, 1, 1))])
            self.assertIs(self.assert_just_one(one, needle), meet)
            self.assertIs(self.assert_just_one(needle, one), meet)

    def test_planes_without_a_divisor(self):
        one = folded(BOX, 6)
        for way in ((7, 0, 0), (0, -7, 0), (7, 7, 0), (100, 100, 100)):
            self.assert_parted(one, put_off(one, way))
        self.assertEqual(parting_of(one, put_off(one, (8, 0, 0)))[:3], (1, 0, 0))
        self.assertIn(parting_of(one, put_off(one, (8, 0, 0)))[3], (6, 7))
        self.assertEqual(parting_of(one, put_off(one, (-7, 0, 0))), (-1, 0, 0, 0))


class JustOne(TwoBodies):
    def test_boxes_all_about_a_box(self):
        one = folded(BOX, 2)
        for way in product((-4, -3, -2, -1, 0, 1, 2, 3), repeat=3):
            other = put_off(box((0, 0, 0), (3, 2, 1)), way)
            meet = -3 <= way[0] <= 2 and -2 <= way[1] <= 2 and -1 <= way[2] <= 2
            self.assertIs(self.assert_just_one(one, other), meet)

    def test_octahedra_all_about_one(self):
        one = folded(OCTAHEDRON, 2)
        for way in product(range(-4, 5), repeat=3):
            meet = sum(abs(n) for n in way) <= 4
            self.assertIs(self.assert_just_one(one, put_off(one, way)), meet)

    def test_thrown_bodies(self):
        dice = Dice(99)
        bodies = [body_of(points) for points in thrown_lists(150, 9, 5) if slow_dimension(points) == 3]
        seen = {True: 0, False: 0}
        for one, other in zip(bodies, bodies[1:]):
            for way in ((0, 0, 0), tuple(n - 4 for n in dice.point(9)), tuple(n - 4 for n in dice.point(9))):
                seen[self.assert_just_one(one, put_off(other, way))] += 1
        self.assertGreater(min(seen.values()), 40)

    def test_thrown_bodies_moved(self):
        bodies = [body_of(points) for points in thrown_lists(30, 8, 4) if slow_dimension(points) == 3]
        for how, move in MOVES.items():
            for one, other in zip(bodies, bodies[1:]):
                for way in ((0, 0, 0), (2, -1, 1), (3, 3, 0)):
                    meet = self.assert_just_one(one, put_off(other, way))
                    there = sorted(move(P) for P in one)
                    yonder = sorted(move(P) for P in put_off(other, way))
                    self.assertIs(self.assert_just_one(there, yonder), meet)
                    self.assertIs(self.assert_just_one(yonder, there), meet)

    def test_forty_corners(self):
        for one, other in product((CURVE_FORTY, BOWL_FORTY, DRUM_FORTY), repeat=2):
            seen = set()
            for way in ((0, 0, 0), (1, 2, 3), (0, 0, 40), (0, -7, 0), (0, 0, -900), (50, 0, 0), (HUGE, -HUGE, 7)):
                seen.add(self.assert_just_one(one, put_off(other, way)))
            self.assertEqual(seen, {True, False})

    def test_unlike_bodies(self):
        for first, second in product(BODIES, repeat=2):
            for way in ((0, 0, 0), (3, -2, 4), (-9, 1, 1)):
                with self.subTest(first=first, second=second, way=way):
                    self.assert_just_one(BODIES[first], put_off(BODIES[second], way))


if __name__ == "__main__":
    unittest.main()
