"""Point [2]: nothing handed in is changed or kept, what is told is the asker's own, and all within bounds is told."""

import unittest
from copy import deepcopy

from stakebodies.bodies import body_of, dimension_of, faces_of, is_body
from stakebodies.desk import Desk
from stakebodies.edges import edges_of, where_in
from stakebodies.errors import Flat, NoAxis, NoMove, NoName, NoRow, NoText
from stakebodies.likeness import alike, own_moves
from stakebodies.meetings import meeting_of, parting_of
from stakebodies.moves import behind, body_moved, is_move, moved, way_back
from stakebodies.papers import plane_bars, plane_beyond, shares_of, shares_show
from stakebodies.rooms import rooms_seen, shadow_area, shadow_of, sixfold_room
from stakebodies.spaces import plane_through, side_of
from stakebodies.sums import body_difference, body_fold, body_sum
from stakebodies.texts import read_number, read_point, read_points, show_points
from tests.shapes import (
    BOWL_FORTY, BOX, CURVE_FORTY, DRUM_FORTY, HUNDRED_FIGURES, MOVE_TUPLES, PYRAMID, TETRA, WITHOUT_ROOM, Dice, come_to,
    folded, slow_moved, slow_side,
)

N = HUNDRED_FIGURES

FAR_BOX = [(x, y, z) for x in (N - 3, N) for y in (0, 2) for z in (5, 6)]


def lists_told(ask):
    """Whether a list is told of a box, or lists in a tuple."""
    told = ask(BOX)
    return isinstance(told, list) or isinstance(told, tuple) and isinstance(told[0], list)


def told_to_a_desk(points):
    desk = Desk()
    desk.say("body a " + show_points(points[:40]))
    return desk.say("show a") + desk.say("meet a a") + desk.say("alike a a")


ASKED = {
    "dimension_of": dimension_of,
    "body_of": body_of,
    "is_body": is_body,
    "faces_of": faces_of,
    "edges_of": edges_of,
    "where_in": lambda points: where_in(points, (0, 0, 1)),
    "shares_of": lambda points: shares_of(points, (0, 1, 1)),
    "shares_of, outside": lambda points: shares_of(points, (0, 0, -N)),
    "shares_show": lambda points: shares_show(points, points[1], [(points[1], (1, 1))]),
    "plane_beyond": lambda points: plane_beyond(points, (0, 0, -N)),
    "plane_bars": lambda points: plane_bars(points, (0, 0, -N), (0, 0, -1, 10 ** 6)),
    "sixfold_room": sixfold_room,
    "rooms_seen": lambda points: rooms_seen(points, (3, 4, 5)),
    "shadow_of": lambda points: shadow_of(points, 1),
    "shadow_area": lambda points: shadow_area(points, 2),
    "body_fold": lambda points: body_fold(points, -2),
    "body_sum, as the one": lambda points: body_sum(points, TETRA),
    "body_sum, as the other": lambda points: body_sum(TETRA, points),
    "body_sum, as both": lambda points: body_sum(points, points),
    "body_difference, as the one": lambda points: body_difference(points, TETRA),
    "body_difference, as the other": lambda points: body_difference(TETRA, points),
    "body_difference, as both": lambda points: body_difference(points, points),
    "meeting_of, as the one": lambda points: meeting_of(points, TETRA),
    "meeting_of, as the other": lambda points: meeting_of(TETRA, points),
    "meeting_of, as both": lambda points: meeting_of(points, points),
    "parting_of, as the one": lambda points: parting_of(points, FAR_BOX),
    "parting_of, as the other": lambda points: parting_of(FAR_BOX, points),
    "body_moved": lambda points: body_moved(points, MOVE_TUPLES["slanted mirror"]),
    "alike, as the one": lambda points: alike(points, PYRAMID),
    "alike, as the other": lambda points: alike(BOX, points),
    "alike, as both": lambda points: alike(points, points),
    "own_moves": own_moves,
    "show_points": show_points,
    "read_points": lambda points: read_points(show_points(points[:40])),
    "Desk": told_to_a_desk,
}
LISTS_ASKED = {name: ask for name, ask in ASKED.items() if lists_told(ask)}


def lists_within(told):
    """The told list and all lists within it."""
    found = [told] if isinstance(told, list) else []
    if isinstance(told, (list, tuple)):
        for part in told:
            found.extend(lists_within(part))
    return found


def spoil(told):
    for each in lists_within(told):
        each.reverse()
        each.append("spoiled")


class HandedIn(unittest.TestCase):
    def test_lists_handed_in_are_the_same_afterwards(self):
        untidy = Dice(11).shuffled(PYRAMID + PYRAMID[1:3] + [(0, 0, 1), (0, 0, 0), (1, 0, 0)])
        for name, ask in ASKED.items():
            for points in (BOX, PYRAMID, CURVE_FORTY, untidy):
                with self.subTest(name=name, points=points):
                    handed_in = list(points)
                    ask(handed_in)
                    self.assertEqual(handed_in, points)

    def test_lists_refused_are_the_same_afterwards(self):
        for ask in (body_of, faces_of):
            for points in WITHOUT_ROOM + [[]]:
                handed_in = list(points)
                with self.assertRaises(ValueError):
                    ask(handed_in)
                self.assertEqual(handed_in, points)

    def test_pairs_handed_in_are_the_same_afterwards(self):
        for pairs in (
            [((0, 0, 0), (1, 2)), ((1, 1, 1), (1, 2))], [((1, 1, 1), (1, 2)), ((0, 0, 0), (1, 2))],
            [((0, 0, 0), (2, 3)), ((0, 0, 0), (1, 3))], [], [((9, 9, 9), (0, 1))],
        ):
            handed_in, land = list(pairs), list(BOX)
            for P in ((0, 0, 0), (1, 1, 1), (5, 5, 5)):
                shares_show(land, P, handed_in)
            self.assertEqual(handed_in, pairs)
            self.assertEqual(land, BOX)

    def test_lists_refused_of_folds_and_shadows_are_the_same_afterwards(self):
        land = list(PYRAMID)
        with self.assertRaises(Flat):
            body_fold(land, 0)
        for ask in (shadow_of, shadow_area):
            with self.assertRaises(NoAxis):
                ask(land, 3)
        self.assertEqual(land, PYRAMID)

    def test_lists_refused_with_no_move_are_the_same_afterwards(self):
        land = list(PYRAMID)
        no_move = list(MOVE_TUPLES["slanted"])
        with self.assertRaises(NoMove):
            body_moved(land, no_move)
        self.assertEqual(land, PYRAMID)
        self.assertEqual(no_move, list(MOVE_TUPLES["slanted"]))

    def test_both_bodies_handed_in_are_the_same_afterwards(self):
        for ask in (body_sum, body_difference, meeting_of, parting_of, alike):
            for first in (BOX, PYRAMID, DRUM_FORTY, FAR_BOX):
                for second in (BOX, TETRA, CURVE_FORTY, FAR_BOX):
                    one, other = list(first), list(second)
                    ask(one, other)
                    self.assertEqual((one, other), (first, second))

    def test_a_list_handed_in_and_changed_then_is_asked_anew(self):
        for name, ask in ASKED.items():
            with self.subTest(name):
                points = list(BOX)
                first = deepcopy(ask(points))
                told = ask(points)
                points.append((0, 0, 9))
                self.assertEqual(told, first)
                self.assertEqual(ask(points), ask(BOX + [(0, 0, 9)]))
                points.pop()
                self.assertEqual(ask(points), first)


class Told(unittest.TestCase):
    def test_a_told_list_that_is_changed_changes_no_later_answer(self):
        for name, ask in LISTS_ASKED.items():
            for points in (BOX, PYRAMID, DRUM_FORTY):
                with self.subTest(name):
                    handed_in = list(points)
                    told = ask(handed_in)
                    expected = deepcopy(told)
                    spoil(told)
                    if expected is not None:
                        self.assertNotEqual(told, expected)
                    self.assertEqual(handed_in, points)
                    self.assertEqual(ask(handed_in), expected)
                    self.assertEqual(ask(points), expected)

    def test_which_tell_lists(self):
        self.assertEqual({name.split(",")[0] for name in LISTS_ASKED}, {
            "body_of", "faces_of", "edges_of", "shares_of", "rooms_seen", "shadow_of", "body_fold", "body_sum",
            "body_difference", "meeting_of", "body_moved", "own_moves", "read_points",
        })

    def test_rings_that_are_changed_change_no_other_answer(self):
        expected = [deepcopy(ask(PYRAMID)) for ask in ASKED.values()]
        for plane, ring in faces_of(PYRAMID):
            ring.clear()
        self.assertEqual([ask(PYRAMID) for ask in ASKED.values()], expected)

    def test_no_two_lists_told_are_one(self):
        handed_in = list(BOX)
        kept = [handed_in]
        for ask in LISTS_ASKED.values():
            kept.extend(lists_within(ask(handed_in)) + lists_within(ask(handed_in)))
        self.assertEqual(len({id(each) for each in kept}), len(kept))

    def test_the_same_asked_again_is_answered_the_same(self):
        for name, ask in ASKED.items():
            for points in (BOX, PYRAMID, CURVE_FORTY, Dice(4).shuffled(BOWL_FORTY)):
                with self.subTest(name=name):
                    self.assertEqual(ask(points), ask(list(points)))


class Bounds(unittest.TestCase):
    # Forty corners on a curve that reaches out as far as one hundred figures do.
    GREAT = sorted((t * (N // 20), t * t * (N // 400), t ** 3 * (N // 8000) + (N % 8000 if t == 20 else 0))
                   for t in range(-19, 21))

    def test_great_has_a_hundred_figures(self):
        self.assertEqual(len(self.GREAT), 40)
        self.assertEqual(max(len(str(abs(n))) for P in self.GREAT for n in P), 100)

    def test_forty_points_of_a_hundred_figures(self):
        self.assertEqual(dimension_of(self.GREAT), 3)
        self.assertEqual(body_of(self.GREAT), self.GREAT)
        self.assertEqual(body_of(Dice(9).shuffled(self.GREAT)), self.GREAT)
        self.assertIs(is_body(self.GREAT), True)
        faces = faces_of(self.GREAT)
        self.assertEqual(len(faces), 76)
        for plane, ring in faces:
            self.assertEqual(plane, plane_through(ring[0], ring[1], ring[2]))
            self.assertEqual([side_of(plane, P) for P in self.GREAT].count(0), 3)
            self.assertEqual([side_of(plane, P) for P in self.GREAT].count(-1), 37)
        self.assertEqual(len(edges_of(self.GREAT)), 114)
        self.assertEqual([where_in(self.GREAT, P) for P in self.GREAT[:5]], [0] * 5)
        self.assertEqual(where_in(self.GREAT, (0, N // 9, 0)), 1)
        self.assertEqual(where_in(self.GREAT, (N, N, -N)), -1)

    def test_papers_of_forty_corners_of_a_hundred_figures(self):
        seen = set()
        for P in self.GREAT[:3] + [(0, N // 9, 0), (N // 7, N // 5, N // 30), (N, N, -N), (0, -1, 0), (N, 0, 0)]:
            shares, plane = shares_of(self.GREAT, P), plane_beyond(self.GREAT, P)
            self.assertNotEqual(shares is None, plane is None)
            seen.add(shares is None)
            if shares is None:
                self.assertIs(plane_bars(self.GREAT, P, plane), True)
            else:
                self.assertEqual(come_to(shares), (1, P))
                self.assertIs(shares_show(self.GREAT, P, shares), True)
        self.assertEqual(seen, {True, False})

    def test_rooms_and_shadows_of_forty_corners_of_a_hundred_figures(self):
        room = sixfold_room(self.GREAT)
        self.assertGreater(room, 10 ** 295)
        for V in ((0, 0, 0), (N, N, N), (-N, N, 1), self.GREAT[7]):
            seen = rooms_seen(self.GREAT, V)
            self.assertEqual(len(seen), 76)
            self.assertEqual(sum(seen), room)
        for axis in (0, 1, 2):
            self.assertGreater(shadow_area(self.GREAT, axis), 10 ** 195)
            self.assertEqual(len(shadow_of(self.GREAT, axis)), len(set(shadow_of(self.GREAT, axis))))

    def test_sums_and_meetings_of_forty_corners_of_a_hundred_figures(self):
        other = sorted((P[2], P[0], -P[1]) for P in self.GREAT)
        told = body_sum(self.GREAT, other)
        self.assertIs(is_body(told), True)
        self.assertEqual(body_difference(self.GREAT, other), body_sum(self.GREAT, folded(other, -1)))
        self.assertEqual(body_fold(self.GREAT, -N ** 4), folded(self.GREAT, -N ** 4))
        of_one, of_other = meeting_of(self.GREAT, other)
        self.assertEqual(come_to(of_one), come_to(of_other))
        self.assertEqual(come_to(of_one)[0], 1)
        self.assertIsNone(parting_of(self.GREAT, other))
        apart = sorted((P[0], P[1] - N, P[2]) for P in other)
        self.assertIsNone(meeting_of(self.GREAT, apart))
        plane = parting_of(self.GREAT, apart)
        self.assertLessEqual(max(slow_side(plane, P) for P in self.GREAT), 0)
        self.assertEqual(min(slow_side(plane, P) for P in apart), 1)

    def test_moves_and_likeness_of_forty_corners_of_a_hundred_figures(self):
        tall = 10 ** 400 - 1
        move = (1, tall, 0, 0, 1, 0, -tall, 5, -1, tall, -tall, 3)
        there = sorted(slow_moved(P, move) for P in self.GREAT)
        self.assertEqual(body_moved(self.GREAT, move), there)
        self.assertEqual(body_moved(there, way_back(move)), self.GREAT)
        self.assertEqual([moved(P, way_back(move)) for P in there], [slow_moved(P, way_back(move)) for P in there])
        self.assertIs(is_move(behind(move, move)), True)
        # It has the move alone that leaves all, so there is no other move from it to where it is moved.
        self.assertEqual(own_moves(self.GREAT), [MOVE_TUPLES["leaves all"]])
        self.assertEqual(alike(self.GREAT, there), move)
        self.assertEqual(alike(there, self.GREAT), way_back(move))
        mirrored = sorted((-P[0], P[1], P[2]) for P in self.GREAT)
        self.assertEqual(alike(self.GREAT, mirrored), (-1, 0, 0, 0, 1, 0, 0, 0, 1, 0, 0, 0))
        self.assertIsNone(alike(self.GREAT, sorted((P[0], P[1], 2 * P[2]) for P in self.GREAT)))

    def test_texts_of_twenty_thousand_signs(self):
        desk = Desk()
        for sign in "0a,- ~\t\n":
            for text in (sign * 20000, "1" + sign * 19999, "1,2,3" + sign * 19995):
                for read in (read_number, read_point, read_points):
                    with self.assertRaises(NoText):
                        read(text)
            with self.assertRaises(NoRow):
                desk.say(sign * 20000)
            with self.assertRaises(NoRow if sign == " " else NoName):
                desk.say("show a" + sign * 19994)
            with self.assertRaises(NoRow if sign == " " else NoText):
                desk.say("body a 0,0,0" + sign * 19988)

    def test_somewhat_beyond_the_bounds_nothing_of_moves_and_likeness_is_refused(self):
        land = sorted((t, t * t, t ** 3 + 10 ** 104) for t in range(45))
        move = (1, 0, 10 ** 404, 0, 1, 0, 0, 0, 1, 0, 10 ** 404, 0)
        there = body_moved(land, move)
        self.assertEqual(there, sorted(slow_moved(P, move) for P in land))
        told = alike(land, there)
        self.assertEqual(sorted(slow_moved(P, told) for P in land), there)
        self.assertEqual(len(own_moves(there)), len(own_moves(land)))

    def test_somewhat_beyond_the_bounds_nothing_of_papers_rooms_and_sums_is_refused(self):
        land = sorted((t, t * t, t ** 3 + 10 ** 104) for t in range(45))
        P = (18, 560, 19584 + 10 ** 104)
        self.assertIs(shares_show(land, P, shares_of(land, P)), True)
        self.assertEqual(sum(rooms_seen(land, P)), sixfold_room(land))
        self.assertEqual(len(shadow_of(land, 2)), 45)
        self.assertEqual(body_sum(land, land), folded(land, 2))
        self.assertIsNone(parting_of(land, folded(land, 1)))

    def test_forty_points_of_which_few_are_corners(self):
        corners = [(-N, -N, -N), (-N, N, N), (N, -N, N), (N, N, -N)]
        dice = Dice(21)
        inner = [tuple(n * (N // 900) for n in dice.point(300)) for k in range(36)]
        points = dice.shuffled(corners + inner)
        self.assertEqual(body_of(points), corners)
        self.assertEqual(len(faces_of(points)), 4)

    def test_somewhat_beyond_the_bounds_nothing_is_refused(self):
        points = sorted((t, t * t, t ** 3 + 10 ** 104) for t in range(45))
        self.assertEqual(body_of(points), points)
        self.assertEqual(len(faces_of(points)), 86)


if __name__ == "__main__":
    unittest.main()
