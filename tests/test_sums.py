"""Point [15]: folds, sums and differences of bodies."""

import unittest
from itertools import product

from stakebodies.bodies import body_of, faces_of, is_body
from stakebodies.edges import edges_of
from stakebodies.errors import BodyError, Flat
from stakebodies.rooms import sixfold_room
from stakebodies.sums import body_difference, body_fold, body_sum
from tests.shapes import (
    BIG_BOX, BODIES, BOWL_FORTY, BOX, CURVE_FORTY, DRUM_FORTY, HEXAGON_TOWER, HUGE, HUNDRED_FIGURES, MOVES, OCTAHEDRON,
    PRISM, PYRAMID, TETRA, all_sums, far_off, folded, minus, moved_bodies, slanted, slow_corners, slow_dimension,
    thrown_lists,
)

N = HUNDRED_FIGURES
FOUR_HUNDRED = 10 ** 400 - 1
SMALL = ["tetra", "box", "big box", "pyramid", "prism", "octahedron", "hexagon tower"]
# The sums of their corners are all corners: the one bends along x alone, the other along y.
BENT_ALONG_X = sorted((1000 * t, t % 2, -1000 * t * t) for t in range(-20, 20))
BENT_ALONG_Y = sorted((t % 2, 1000 * t, -1000 * t * t) for t in range(-20, 20))


def turned(land):
    return [tuple(-n for n in P) for P in land]


def thrown_bodies(count, most, bound):
    return [body_of(points) for points in thrown_lists(count, most, bound) if slow_dimension(points) == 3]


class Folds(unittest.TestCase):
    def test_by_small_and_great_numbers(self):
        for label, land in moved_bodies():
            for k in (1, -1, 2, -3, 10, HUGE, -FOUR_HUNDRED):
                with self.subTest(label=label, k=k):
                    told = body_fold(land, k)
                    self.assertEqual(told, sorted(tuple(k * n for n in P) for P in land))
                    self.assertIs(is_body(told), True)

    def test_known_folds(self):
        self.assertEqual(body_fold(TETRA, 1), TETRA)
        self.assertEqual(body_fold(TETRA, -1), [(-1, 0, 0), (0, -1, 0), (0, 0, -1), (0, 0, 0)])
        self.assertEqual(body_fold(TETRA, 2), [(0, 0, 0), (0, 0, 2), (0, 2, 0), (2, 0, 0)])
        self.assertEqual(body_fold(TETRA, -3), [(-3, 0, 0), (0, -3, 0), (0, 0, -3), (0, 0, 0)])
        self.assertEqual(body_fold(OCTAHEDRON, -1), OCTAHEDRON)

    def test_by_naught(self):
        for label, land in moved_bodies():
            with self.subTest(label):
                with self.assertRaises(Flat):
                    body_fold(land, 0)
        with self.assertRaises(BodyError):
            body_fold(BOX, 0)

    def test_kinds(self):
        for P in body_fold(BOX, -2):
            self.assertIs(type(P), tuple)
            self.assertEqual([type(n) for n in P], [int] * 3)


class Sums(unittest.TestCase):
    def assert_sum_holds(self, one, other, told):
        """Each corner is the sum of just one pair, and no other sum lies outside."""
        self.assertIs(type(told), list)
        self.assertIs(is_body(told), True)
        sums = all_sums(one, other)
        self.assertLessEqual(set(told), set(sums))
        for corner in told:
            self.assertEqual(sums.count(corner), 1)
        self.assertEqual(told, body_of(sums))

    def test_known_sums(self):
        self.assertEqual(body_sum(BOX, BOX), folded(BOX, 2))
        self.assertEqual(body_sum(BOX, BIG_BOX), [(x, y, z) for x in (-3, 8) for y in (2, 5) for z in (-5, 1)])
        self.assertEqual(body_sum(TETRA, turned(TETRA)), [
            (-1, 0, 0), (-1, 0, 1), (-1, 1, 0), (0, -1, 0), (0, -1, 1), (0, 0, -1),
            (0, 0, 1), (0, 1, -1), (0, 1, 0), (1, -1, 0), (1, 0, -1), (1, 0, 0),
        ])
        self.assertEqual(body_sum(TETRA, OCTAHEDRON), slow_corners(all_sums(TETRA, OCTAHEDRON)))
        self.assertEqual(len(body_sum(BOX, OCTAHEDRON)), 24)

    def test_known_differences(self):
        self.assertEqual(body_difference(BOX, BOX), [(x, y, z) for x in (-1, 1) for y in (-1, 1) for z in (-1, 1)])
        self.assertEqual(body_difference(TETRA, TETRA), body_sum(TETRA, turned(TETRA)))
        self.assertEqual(body_difference(BIG_BOX, BOX), [(x, y, z) for x in (-4, 7) for y in (1, 4) for z in (-6, 0)])
        self.assertEqual(body_difference(BOX, BIG_BOX), [(x, y, z) for x in (-7, 4) for y in (-4, -1) for z in (0, 6)])

    def test_a_body_with_itself(self):
        for label, land in moved_bodies():
            with self.subTest(label):
                self.assertEqual(body_sum(land, land), folded(land, 2))
                gap = body_difference(land, land)
                self.assertEqual(gap, sorted(turned(gap)))
                self.assert_sum_holds(land, turned(land), gap)

    def test_like_bodies(self):
        for label, land in moved_bodies():
            with self.subTest(label):
                self.assertEqual(body_sum(land, folded(land, 3)), folded(land, 4))
                there = sorted(tuple(a + b for a, b in zip(P, (5, -N, 7))) for P in land)
                twice = sorted(tuple(2 * a + b for a, b in zip(P, (5, -N, 7))) for P in land)
                self.assertEqual(body_sum(land, there), twice)

    def test_unlike_bodies_also_slanted_and_far_off(self):
        for first, second in product(SMALL, SMALL):
            for how, again in (("as it is", "as it is"), ("slanted", "as it is"), ("slanted, far off", "mirrored"),
                               ("mirrored, sheared", "turned back"), ("far off", "mirrored, sheared")):
                with self.subTest(first=first, second=second, how=how, again=again):
                    one = sorted(MOVES[how](P) for P in BODIES[first])
                    other = sorted(MOVES[again](P) for P in BODIES[second])
                    self.assert_sum_holds(one, other, body_sum(one, other))
                    self.assert_sum_holds(one, turned(other), body_difference(one, other))

    def test_moved_alike(self):
        for how in ("slanted", "mirrored", "turned back"):
            move = MOVES[how]
            for one, other in ((BOX, PRISM), (PYRAMID, HEXAGON_TOWER), (TETRA, OCTAHEDRON)):
                there = body_sum(sorted(move(P) for P in one), sorted(move(P) for P in other))
                self.assertEqual(there, sorted(move(P) for P in body_sum(one, other)))

    def test_far_off(self):
        self.assertEqual(body_sum(sorted(far_off(P) for P in PRISM), PYRAMID),
                         sorted(far_off(P) for P in body_sum(PRISM, PYRAMID)))
        self.assertEqual(body_difference(sorted(far_off(P) for P in PRISM), sorted(far_off(P) for P in PYRAMID)),
                         body_difference(PRISM, PYRAMID))

    def test_the_two_exchanged(self):
        bodies = thrown_bodies(40, 10, 5)
        for one, other in zip(bodies, bodies[1:]):
            self.assertEqual(body_sum(one, other), body_sum(other, one))
            self.assertEqual(body_difference(one, other), sorted(turned(body_difference(other, one))))
            self.assertEqual(body_difference(one, other), body_sum(one, body_fold(other, -1)))

    def test_as_the_second_reckoning(self):
        bodies = thrown_bodies(40, 7, 3) + thrown_bodies(20, 7, 9)
        for one, other in zip(bodies, bodies[1:]):
            self.assertEqual(body_sum(one, other), slow_corners(all_sums(one, other)))
            self.assertEqual(body_difference(one, other), slow_corners(all_sums(one, turned(other))))

    def test_thrown_bodies_hold(self):
        bodies = thrown_bodies(120, 14, 4) + thrown_bodies(40, 20, 100)
        for one, other in zip(bodies, bodies[1:]):
            self.assert_sum_holds(one, other, body_sum(one, other))
            self.assert_sum_holds(one, turned(other), body_difference(one, other))

    def test_edges_and_faces_that_stand_alike(self):
        # Boxes and prisms share directions of edges and planes of faces, so sums fall together on them.
        long_box = body_of([(x, y, z) for x in (0, 9) for y in (0, 1) for z in (0, 4)])
        slab = sorted(slanted(P) for P in long_box)
        for one, other in product((BOX, long_box, PRISM, slab, TETRA), repeat=2):
            self.assert_sum_holds(one, other, body_sum(one, other))
            self.assert_sum_holds(one, turned(other), body_difference(one, other))

    def test_forty_corners(self):
        for one, other in ((CURVE_FORTY, BOWL_FORTY), (BOWL_FORTY, DRUM_FORTY), (DRUM_FORTY, CURVE_FORTY)):
            self.assert_sum_holds(one, other, body_sum(one, other))
            self.assert_sum_holds(one, turned(other), body_difference(one, other))

    def test_sums_with_as_many_corners_as_there_are_pairs(self):
        self.assertIs(is_body(BENT_ALONG_X), True)
        self.assertIs(is_body(BENT_ALONG_Y), True)
        self.assertEqual(body_sum(BENT_ALONG_X, BENT_ALONG_Y), sorted(all_sums(BENT_ALONG_X, BENT_ALONG_Y)))

    def test_sums_of_sums(self):
        one, other, third = TETRA, PYRAMID, OCTAHEDRON
        self.assertEqual(body_sum(body_sum(one, other), third), body_sum(one, body_sum(other, third)))
        self.assertEqual(body_sum(body_difference(one, other), other), body_sum(one, body_difference(other, other)))

    def test_a_sum_has_more_room_than_its_parts(self):
        for one, other in product((TETRA, PRISM, PYRAMID), repeat=2):
            room = sixfold_room(body_sum(one, other))
            self.assertGreater(room, sixfold_room(one) + sixfold_room(other))
            told = body_sum(one, other)
            self.assertEqual(len(told) + len(faces_of(told)), len(edges_of(told)) + 2)

    def test_a_hundred_figures(self):
        great = [(-N, -N, -N), (-N, N, N), (N, -N, N), (N, N, -N)]
        self.assertEqual(body_sum(great, great), folded(great, 2))
        self.assert_sum_holds(great, folded(BOX, N), body_sum(great, folded(BOX, N)))
        self.assertEqual(body_difference(folded(BOX, N), great), slow_corners(all_sums(folded(BOX, N), turned(great))))
        self.assertEqual(minus(max(body_sum(great, great)), min(body_sum(great, great))), (4 * N, 4 * N, 0))

    def test_kinds(self):
        for told in (body_sum(BOX, TETRA), body_difference(BOX, TETRA)):
            for P in told:
                self.assertIs(type(P), tuple)
                self.assertEqual([type(n) for n in P], [int] * 3)


if __name__ == "__main__":
    unittest.main()
