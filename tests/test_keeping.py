"""Point [2]: nothing handed in is changed or kept, what is told is the asker's own, and all within bounds is told."""

import unittest
from copy import deepcopy

from stakebodies.bodies import body_of, dimension_of, faces_of, is_body
from stakebodies.edges import edges_of, where_in
from stakebodies.spaces import plane_through, side_of
from tests.shapes import BOWL_FORTY, BOX, CURVE_FORTY, DRUM_FORTY, HUNDRED_FIGURES, PYRAMID, WITHOUT_ROOM, Dice

N = HUNDRED_FIGURES

ASKED = {
    "dimension_of": dimension_of,
    "body_of": body_of,
    "is_body": is_body,
    "faces_of": faces_of,
    "edges_of": edges_of,
    "where_in": lambda points: where_in(points, (0, 0, 1)),
}


def lists_within(told):
    """The told list and all lists within it."""
    found = [told] if isinstance(told, list) else []
    if isinstance(told, (list, tuple)):
        for part in told:
            found.extend(lists_within(part))
    return found


def spoil(told):
    for each in lists_within(told):
        each.reverse()
        each.append("spoiled")


class HandedIn(unittest.TestCase):
    def test_lists_handed_in_are_the_same_afterwards(self):
        untidy = Dice(11).shuffled(PYRAMID + PYRAMID[1:3] + [(0, 0, 1), (0, 0, 0), (1, 0, 0)])
        for name, ask in ASKED.items():
            for points in (BOX, PYRAMID, CURVE_FORTY, untidy):
                with self.subTest(name=name, points=points):
                    handed_in = list(points)
                    ask(handed_in)
                    self.assertEqual(handed_in, points)

    def test_lists_refused_are_the_same_afterwards(self):
        for ask in (body_of, faces_of):
            for points in WITHOUT_ROOM + [[]]:
                handed_in = list(points)
                with self.assertRaises(ValueError):
                    ask(handed_in)
                self.assertEqual(handed_in, points)

    def test_a_list_handed_in_and_changed_then_is_asked_anew(self):
        for name, ask in ASKED.items():
            with self.subTest(name):
                points = list(BOX)
                first = deepcopy(ask(points))
                told = ask(points)
                points.append((0, 0, 9))
                self.assertEqual(told, first)
                self.assertEqual(ask(points), ask(BOX + [(0, 0, 9)]))
                points.pop()
                self.assertEqual(ask(points), first)


class Told(unittest.TestCase):
    def test_a_told_list_that_is_changed_changes_no_later_answer(self):
        for ask in (body_of, faces_of, edges_of):
            for points in (BOX, PYRAMID, DRUM_FORTY):
                handed_in = list(points)
                told = ask(handed_in)
                expected = deepcopy(told)
                spoil(told)
                self.assertNotEqual(told, expected)
                self.assertEqual(handed_in, points)
                self.assertEqual(ask(handed_in), expected)
                self.assertEqual(ask(points), expected)

    def test_rings_that_are_changed_change_no_other_answer(self):
        expected = [deepcopy(ask(PYRAMID)) for ask in ASKED.values()]
        for plane, ring in faces_of(PYRAMID):
            ring.clear()
        self.assertEqual([ask(PYRAMID) for ask in ASKED.values()], expected)

    def test_no_two_lists_told_are_one(self):
        handed_in = list(BOX)
        kept = [handed_in]
        for ask in (body_of, faces_of, edges_of):
            kept.extend(lists_within(ask(handed_in)) + lists_within(ask(handed_in)))
        self.assertEqual(len({id(each) for each in kept}), len(kept))

    def test_the_same_asked_again_is_answered_the_same(self):
        for name, ask in ASKED.items():
            for points in (BOX, PYRAMID, CURVE_FORTY, Dice(4).shuffled(BOWL_FORTY)):
                with self.subTest(name=name):
                    self.assertEqual(ask(points), ask(list(points)))


class Bounds(unittest.TestCase):
    # Forty corners on a curve that reaches out as far as one hundred figures do.
    GREAT = sorted((t * (N // 20), t * t * (N // 400), t ** 3 * (N // 8000) + (N % 8000 if t == 20 else 0))
                   for t in range(-19, 21))

    def test_great_has_a_hundred_figures(self):
        self.assertEqual(len(self.GREAT), 40)
        self.assertEqual(max(len(str(abs(n))) for P in self.GREAT for n in P), 100)

    def test_forty_points_of_a_hundred_figures(self):
        self.assertEqual(dimension_of(self.GREAT), 3)
        self.assertEqual(body_of(self.GREAT), self.GREAT)
        self.assertEqual(body_of(Dice(9).shuffled(self.GREAT)), self.GREAT)
        self.assertIs(is_body(self.GREAT), True)
        faces = faces_of(self.GREAT)
        self.assertEqual(len(faces), 76)
        for plane, ring in faces:
            self.assertEqual(plane, plane_through(ring[0], ring[1], ring[2]))
            self.assertEqual([side_of(plane, P) for P in self.GREAT].count(0), 3)
            self.assertEqual([side_of(plane, P) for P in self.GREAT].count(-1), 37)
        self.assertEqual(len(edges_of(self.GREAT)), 114)
        self.assertEqual([where_in(self.GREAT, P) for P in self.GREAT[:5]], [0] * 5)
        self.assertEqual(where_in(self.GREAT, (0, N // 9, 0)), 1)
        self.assertEqual(where_in(self.GREAT, (N, N, -N)), -1)

    def test_forty_points_of_which_few_are_corners(self):
        corners = [(-N, -N, -N), (-N, N, N), (N, -N, N), (N, N, -N)]
        dice = Dice(21)
        inner = [tuple(n * (N // 900) for n in dice.point(300)) for k in range(36)]
        points = dice.shuffled(corners + inner)
        self.assertEqual(body_of(points), corners)
        self.assertEqual(len(faces_of(points)), 4)

    def test_somewhat_beyond_the_bounds_nothing_is_refused(self):
        points = sorted((t, t * t, t ** 3 + 10 ** 104) for t in range(45))
        self.assertEqual(body_of(points), points)
        self.assertEqual(len(faces_of(points)), 86)


if __name__ == "__main__":
    unittest.main()
