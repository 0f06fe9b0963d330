"""Point [22], and [3] by rows: the desk, its rows with their answers, and what it refuses."""

import unittest

from stakebodies.bodies import faces_of
from stakebodies.desk import Desk
from stakebodies.edges import edges_of
from stakebodies.errors import BodyError, Flat, NoAxis, NoMove, NoName, NoRow, NoText, TooGreat
from stakebodies.likeness import alike, own_moves
from stakebodies.meetings import meeting_of, parting_of
from stakebodies.papers import plane_beyond, shares_of
from stakebodies.rooms import shadow_of, sixfold_room
from stakebodies.sums import body_difference, body_sum
from tests.shapes import (
    BIG_BOX, BODIES, BOX, DRUM_FORTY, HEXAGON_TOWER, MOVE_TUPLES, OCTAHEDRON, PRISM, PYRAMID, TETRA, all_sums, folded,
    slow_corners, slow_moved,
)

MOST = 10 ** 40 - 1
PUT_OFF = "1 0 0 0 1 0 0 0 1 7 8 9"
# One row of each sort, on a desk with the tetra as `a` and the box as `b`.
ROWS = {
    "body": "body n 0,0,0 1,0,0 0,1,0 0,0,1",
    "sum": "sum n a b",
    "less": "less n a b",
    "fold": "fold n a 3",
    "move": "move n a " + PUT_OFF,
    "drop": "drop a",
    "names": "names",
    "show": "show a",
    "sizes": "sizes a",
    "faces": "faces a",
    "where": "where a 0,0,0",
    "shares": "shares a 0,0,0",
    "beyond": "beyond a 0,0,0",
    "shadow": "shadow a 1",
    "meet": "meet a b",
    "part": "part a b",
    "alike": "alike a b",
    "own": "own a",
}


def by_commas(numbers):
    return ",".join(str(number) for number in numbers)


def by_blanks(things):
    return " ".join(str(thing) for thing in things)


def points_written(points):
    return by_blanks(by_commas(P) for P in points)


def fraction_written(fraction):
    top, bottom = fraction
    return f"{top}" if bottom == 1 else f"{top}/{bottom}"


def shares_written(shares):
    return by_blanks(f"{by_commas(P)}*{fraction_written(share)}" for P, share in shares)


def desk_with(**bodies):
    desk = Desk()
    for name, points in bodies.items():
        answer = desk.say(f"body {name} {points_written(points)}")
        if answer != "ok":
            raise AssertionError(answer)
    return desk


def small_desk():
    return desk_with(a=TETRA, b=BOX)


def all_kept(desk):
    return {name: desk.say(f"show {name}") for name in desk.say("names").split()}


class Standing(unittest.TestCase):
    """The rows by which a body stands by a name, or no more."""

    def test_a_new_desk_keeps_none(self):
        self.assertEqual(Desk().say("names"), "")

    def test_body(self):
        desk = Desk()
        self.assertEqual(desk.say("body a 0,0,0 1,0,0 0,1,0 0,0,1"), "ok")
        self.assertEqual(desk.say("show a"), "0,0,0 0,0,1 0,1,0 1,0,0")
        self.assertEqual(desk.say("names"), "a")

    def test_body_of_points_that_are_no_corners(self):
        desk = Desk()
        self.assertEqual(desk.say("body a 4,0,0 0,0,0 1,1,1 0,4,0 0,0,4 2,2,0 0,0,0"), "ok")
        self.assertEqual(desk.say("show a"), "0,0,0 0,0,4 0,4,0 4,0,0")

    def test_body_of_forty_points_with_forty_figures(self):
        points = sorted((t, t * t, MOST if t % 2 else -MOST) for t in range(40))
        desk = desk_with(a=points)
        self.assertEqual(desk.say("show a"), points_written(points))

    def test_sum_and_less(self):
        for name, other in (("b", BOX), ("a", TETRA), ("p", PRISM)):
            desk = desk_with(a=TETRA, b=BOX, p=PRISM)
            self.assertEqual(desk.say(f"sum n a {name}"), "ok")
            self.assertEqual(desk.say("show n"), points_written(body_sum(TETRA, other)))
            self.assertEqual(desk.say(f"less n a {name}"), "ok")
            self.assertEqual(desk.say("show n"), points_written(body_difference(TETRA, other)))
        self.assertEqual(desk.say("less n p a"), "ok")
        self.assertEqual(desk.say("show n"), points_written(body_difference(PRISM, TETRA)))

    def test_fold(self):
        for k in (1, 2, -1, -7, 10 ** 39, 10 ** 40 - 1, 1 - 10 ** 40):
            desk = small_desk()
            self.assertEqual(desk.say(f"fold n a {k}"), "ok")
            self.assertEqual(desk.say("show n"), points_written(folded(TETRA, k)))

    def test_move(self):
        for how in ("leaves all", "slanted, put off", "mirrored, put off", "turned round", "slanted mirror"):
            desk = desk_with(a=PYRAMID)
            self.assertEqual(desk.say("move n a " + by_blanks(MOVE_TUPLES[how])), "ok")
            there = sorted(slow_moved(P, MOVE_TUPLES[how]) for P in PYRAMID)
            self.assertEqual(desk.say("show n"), points_written(there))
            self.assertEqual(desk.say("show a"), points_written(PYRAMID))

    def test_drop(self):
        desk = small_desk()
        self.assertEqual(desk.say("drop a"), "ok")
        self.assertEqual(desk.say("names"), "b")
        for row in ("show a", "drop a", "sum n a b", "sum n b a", "meet b a", "own a"):
            with self.assertRaises(NoName):
                desk.say(row)
        self.assertEqual(desk.say("drop b"), "ok")
        self.assertEqual(desk.say("names"), "")
        self.assertEqual(desk.say("body a " + points_written(BOX)), "ok")
        self.assertEqual(desk.say("show a"), points_written(BOX))

    def test_names_in_order(self):
        desk = Desk()
        for name in ("z", "b", "aa", "a", "zzzzzzzz", "ab", "body", "names", "ba", "b"):
            self.assertEqual(desk.say(f"body {name} {points_written(TETRA)}"), "ok")
        self.assertEqual(desk.say("names"), "a aa ab b ba body names z zzzzzzzz")

    def test_a_new_name_by_which_a_body_stands_has_the_new_one_then(self):
        desk = small_desk()
        self.assertEqual(desk.say("body a " + points_written(PRISM)), "ok")
        self.assertEqual(desk.say("show a"), points_written(PRISM))
        self.assertEqual(desk.say("names"), "a b")
        self.assertEqual(desk.say("fold a b 5"), "ok")
        self.assertEqual(desk.say("show a"), points_written(folded(BOX, 5)))
        self.assertEqual(desk.say("show b"), points_written(BOX))

    def test_also_where_the_row_reads_the_same_name(self):
        desk = small_desk()
        self.assertEqual(desk.say("fold a a -2"), "ok")
        self.assertEqual(desk.say("show a"), points_written(folded(TETRA, -2)))
        self.assertEqual(desk.say("fold a a -1"), "ok")
        self.assertEqual(desk.say("show a"), points_written(folded(TETRA, 2)))
        self.assertEqual(desk.say("sum a a a"), "ok")
        self.assertEqual(desk.say("show a"), points_written(folded(TETRA, 4)))
        self.assertEqual(desk.say("less b a b"), "ok")
        self.assertEqual(desk.say("show b"), points_written(body_difference(folded(TETRA, 4), BOX)))
        self.assertEqual(desk.say("move a a " + PUT_OFF), "ok")
        self.assertEqual(desk.say("show a"), "7,8,9 7,8,13 7,12,9 11,8,9")

    def test_what_one_desk_is_told_changes_no_other_one(self):
        one, other = small_desk(), Desk()
        self.assertEqual(other.say("names"), "")
        with self.assertRaises(NoName):
            other.say("show a")
        other.say("body a " + points_written(PYRAMID))
        other.say("body c " + points_written(PRISM))
        self.assertEqual(one.say("names"), "a b")
        self.assertEqual(one.say("show a"), points_written(TETRA))
        one.say("drop a")
        one.say("fold b b 2")
        self.assertEqual(other.say("names"), "a c")
        self.assertEqual(other.say("show a"), points_written(PYRAMID))
        self.assertEqual(Desk().say("names"), "")


class Answers(unittest.TestCase):
    def test_known_answers(self):
        desk = desk_with(a=TETRA, b=BOX, p=PYRAMID, far=[(x, y, z + 9) for x, y, z in BOX])
        for row, answer in {
            "show a": "0,0,0 0,0,1 0,1,0 1,0,0",
            "show p": "-2,-2,0 -2,2,0 0,0,3 2,-2,0 2,2,0",
            "sizes a": "4 6 4 1",
            "sizes b": "8 12 6 6",
            "sizes p": "5 8 5 96",
            "faces a": "-1,0,0,0 0,-1,0,0 0,0,-1,0 1,1,1,1",
            "faces p": "-3,0,2,6 0,-3,2,6 0,0,-1,0 0,3,2,6 3,0,2,6",
            "where p 0,0,1": "in",
            "where p 0,0,3": "on",
            "where p 1,1,0": "on",
            "where p 0,0,4": "out",
            "where p 0,0,-1": "out",
            "shares a 0,0,1": "0,0,1*1",
            "shares a 1,1,0": "none",
            "beyond a 1,1,0": "1,1,1,1",
            "beyond a 0,1,0": "none",
            "shadow a 0": "0,0 1,0 0,1",
            "shadow b 2": "0,0 1,0 1,1 0,1",
            "shadow p 0": "-2,0 2,0 0,3",
            "shadow p 2": "-2,-2 2,-2 2,2 -2,2",
            "meet a far": "none",
            "meet far a": "none",
            "part a b": "none",
            "alike a b": "no",
            "alike a p": "no",
            "own a": "24",
            "own b": "48",
            "own p": "8",
            "names": "a b far p",
        }.items():
            with self.subTest(row):
                self.assertEqual(desk.say(row), answer)

    def test_fractions_with_and_without_a_bottom(self):
        desk = desk_with(a=[(0, 0, 0), (0, 0, 4), (0, 4, 0), (4, 0, 0)], b=[(0, 0, 0), (0, 0, 5), (0, 7, 0), (3, 0, 0)])
        self.assertEqual(desk.say("shares a 0,4,0"), "0,4,0*1")
        self.assertEqual(desk.say("shares a 0,0,1"), "0,0,0*3/4 0,0,4*1/4")
        self.assertEqual(desk.say("shares a 2,1,1"), "0,0,4*1/4 0,4,0*1/4 4,0,0*1/2")
        self.assertEqual(desk.say("shares b 1,1,1"), "0,0,0*34/105 0,0,5*1/5 0,7,0*1/7 3,0,0*1/3")

    def test_meetings_of_which_there_is_just_one(self):
        one = [(0, 0, 0), (0, 0, 2), (0, 2, 0), (2, 0, 0)]
        touching = [(-3, 0, 0), (-3, 0, 1), (-3, 1, 0), (0, 0, 0)]
        desk = desk_with(a=one, b=touching)
        self.assertEqual(desk.say("meet a b"), "0,0,0*1 | 0,0,0*1")
        under = [(-1, 0, 0), (0, -5, -3), (0, 5, -3), (2, 0, 0)]
        above = [(-5, 0, 4), (0, -1, 0), (0, 3, 0), (5, 0, 4)]
        desk = desk_with(a=under, b=above)
        self.assertEqual(desk.say("meet a b"), "-1,0,0*2/3 2,0,0*1/3 | 0,-1,0*3/4 0,3,0*1/4")
        self.assertEqual(desk.say("meet b a"), "0,-1,0*3/4 0,3,0*1/4 | -1,0,0*2/3 2,0,0*1/3")

    def test_each_answer_is_that_of_the_function(self):
        names = dict(zip("abcdefghij", BODIES))
        desk = desk_with(**{name: BODIES[called] for name, called in names.items()})
        for name, called in names.items():
            land = BODIES[called]
            with self.subTest(called):
                self.assertEqual(desk.say(f"show {name}"), points_written(land))
                sizes = (len(land), len(edges_of(land)), len(faces_of(land)), sixfold_room(land))
                self.assertEqual(desk.say(f"sizes {name}"), by_blanks(sizes))
                self.assertEqual(desk.say(f"faces {name}"), points_written(face[0] for face in faces_of(land)))
                self.assertEqual(desk.say(f"own {name}"), str(len(own_moves(land))))
                for axis in (0, 1, 2):
                    self.assertEqual(desk.say(f"shadow {name} {axis}"), points_written(shadow_of(land, axis)))

    def test_each_paper_is_that_of_the_function(self):
        desk = Desk()
        seen = set()
        for called, land in BODIES.items():
            desk.say("body a " + points_written(land))
            for P in land[:3] + [(0, 0, 0), (1, 1, 1), (0, 1, 2), (-9, 5, 3), (3, 17, 40)]:
                shares, plane = shares_of(land, P), plane_beyond(land, P)
                told_shares = desk.say("shares a " + by_commas(P))
                told_plane = desk.say("beyond a " + by_commas(P))
                where = desk.say("where a " + by_commas(P))
                self.assertEqual(told_shares, "none" if shares is None else shares_written(shares))
                self.assertEqual(told_plane, "none" if plane is None else by_commas(plane))
                # [3]: just one of the two papers.
                self.assertEqual([told_shares, told_plane].count("none"), 1)
                self.assertEqual(told_shares == "none", where == "out")
                seen.add(where)
        self.assertEqual(seen, {"in", "on", "out"})

    def test_meetings_partings_and_likeness_are_those_of_the_functions(self):
        lands = [TETRA, BOX, PYRAMID, HEXAGON_TOWER, BIG_BOX, [(x + 3, y, z) for x, y, z in OCTAHEDRON], DRUM_FORTY,
                 folded(TETRA, -1), sorted((y, 5 - x, z) for x, y, z in PYRAMID)]
        desk = desk_with(**dict(zip("abcdefghi", lands)))
        seen = set()
        for one, first in zip("abcdefghi", lands):
            for other, second in zip("abcdefghi", lands):
                meeting, plane, move = meeting_of(first, second), parting_of(first, second), alike(first, second)
                met, parted = desk.say(f"meet {one} {other}"), desk.say(f"part {one} {other}")
                self.assertEqual(met, "none" if meeting is None else " | ".join(shares_written(m) for m in meeting))
                self.assertEqual(parted, "none" if plane is None else by_commas(plane))
                # [3]: just one of the two.
                self.assertEqual([met, parted].count("none"), 1)
                told = desk.say(f"alike {one} {other}")
                self.assertEqual(told, "no" if move is None else by_blanks(move))
                seen.add((met == "none", told == "no"))
        self.assertEqual(seen, {(False, False), (False, True), (True, True), (True, False)})

    def test_a_told_move_can_be_told_to_the_desk(self):
        desk = desk_with(a=HEXAGON_TOWER)
        desk.say("move b a 1 3 -7 2 7 -12 5 15 -34 8 -9 4")
        self.assertEqual(desk.say("alike a b"), "1 3 -7 2 7 -12 5 15 -34 8 -9 4")
        self.assertEqual(desk.say("move c b " + desk.say("alike b a")), "ok")
        self.assertEqual(desk.say("show c"), desk.say("show a"))

    def test_what_is_shown_can_be_told_to_the_desk(self):
        desk = desk_with(a=PRISM)
        desk.say("body b " + desk.say("show a"))
        self.assertEqual(desk.say("show b"), desk.say("show a"))

    def test_numbers_of_more_than_forty_figures_in_answers(self):
        land = [(0, 0, 0), (0, 0, MOST), (0, MOST - 1, 1), (MOST - 3, 2, 5)]
        near = [(x - MOST, y - MOST, z - MOST) for x, y, z in land]
        desk = desk_with(a=land, b=near)
        self.assertEqual(desk.say("sizes a"), f"4 6 4 {MOST * (MOST - 1) * (MOST - 3)}")
        faces = desk.say("faces a")
        self.assertEqual(faces, points_written(face[0] for face in faces_of(land)))
        self.assertGreater(max(len(word) for word in faces.replace(",", " ").split()), 79)
        shares = desk.say("shares a 3,4,5")
        self.assertEqual(shares, shares_written(shares_of(land, (3, 4, 5))))
        self.assertGreater(len(shares), 200)
        P = (MOST - 7, MOST, MOST)
        self.assertEqual(desk.say(f"beyond a {by_commas(P)}"), by_commas(plane_beyond(land, P)))
        self.assertGreater(len(desk.say(f"beyond a {by_commas(P)}")), 200)
        self.assertEqual(desk.say("part a b"), by_commas(parting_of(land, near)))
        other = [(x + 5, y + 7, z - 9) for x, y, z in land]
        desk.say("body c " + points_written([(min(x, MOST), min(y, MOST), z) for x, y, z in other]))
        told = desk.say("meet a c")
        self.assertIn(" | ", told)
        self.assertGreater(len(told), 400)

    def test_moves_with_numbers_of_more_than_forty_figures_in_answers(self):
        """Small corners far from (0, 0, 0) that a slanting move takes to one another."""
        k, m = 10 ** 30, 10 ** 39
        one = [(x, y + m, z) for x, y, z in HEXAGON_TOWER]
        other = sorted((x + k * y, y, z) for x, y, z in HEXAGON_TOWER)
        desk = desk_with(a=one, b=other)
        told = desk.say("alike a b")
        self.assertEqual(told, f"1 {k} 0 0 1 0 0 0 1 {-k * m} {-m} 0")
        self.assertEqual(tuple(int(word) for word in told.split(" ")), alike(one, other))


class Refusals(unittest.TestCase):
    def setUp(self):
        self.desk = small_desk()

    def assert_refused(self, refusal, row):
        before = all_kept(self.desk)
        with self.subTest(row=row):
            with self.assertRaises(BodyError) as caught:
                self.desk.say(row)
            self.assertIs(caught.exception.__class__, refusal)
            self.assertEqual(all_kept(self.desk), before)

    def test_each_row_as_it_stands_is_none_of_these(self):
        for row in ROWS.values():
            self.assertIs(small_desk().say(row).__class__, str)

    def test_what_is_no_text(self):
        for row in (None, True, False, 0, 7, 1.5, b"names", [], ["names"], ("show", "a"), {}, {"names"}, object(), Desk,
                    self.desk, len, range(2)):
            self.assert_refused(NoRow, row)

    def test_other_first_words(self):
        for row in ("", " ", "  ", "a", "nonsense", "Names", "NAMES", "name", "namess", "names\n", "\nnames", "names\t",
                    "Show a", "SHOW a", "shows a", "sho a", "show\ta", "show\na", "bodies", "_ a", "say a", "say", "ok",
                    "none", "new a", "sum,n,a,b", "__init__", "put n a", "read_word a b", "standing", "own, a", "1",
                    "?", "bodyn 0,0,0", "name a", "new n 0,0,0 1,0,0 0,1,0 0,0,1", "fold_ n a 3", "copy n a"):
            self.assert_refused(NoRow, row)

    def test_a_word_too_few(self):
        for first, row in ROWS.items():
            words = row.split(" ")
            if first == "body":
                self.assert_refused(NoRow, "body n")
                self.assert_refused(NoRow, "body")
            elif first != "names":
                for count in range(1, len(words)):
                    self.assert_refused(NoRow, " ".join(words[:count]))

    def test_a_word_too_many(self):
        for first, row in ROWS.items():
            if first != "body":
                for more in ("a", "b", "0", "0,0,0", "names", "x y", "a a a"):
                    self.assert_refused(NoRow, f"{row} {more}")

    def test_forty_points_and_forty_one(self):
        forty = points_written(TETRA * 10)
        self.assertEqual(self.desk.say(f"body n {forty}"), "ok")
        self.assert_refused(NoRow, f"body n {forty} 0,0,0")
        self.assert_refused(NoRow, f"body n {forty} x")
        self.assert_refused(NoRow, f"body N {forty} 0,0,0")
        self.assert_refused(NoRow, f"body n {forty} ")
        self.assert_refused(NoRow, f"body n {forty} {forty}")

    def test_the_count_of_words_comes_before_the_words(self):
        for row in ("sum A", "sum A B C D", "show A B", "where nosuch x y", "where nosuch", "fold A nosuch", "own",
                    "own A 1", "body N", "move n a 1 0 0", "move N nosuch x", "drop A B", "names A", "shadow nosuch",
                    "meet A"):
            self.assert_refused(NoRow, row)

    def test_blanks_together_or_at_an_end(self):
        for first, row in ROWS.items():
            self.assert_refused(NoRow, " " + row)
            if first != "body":
                self.assert_refused(NoRow, row + " ")
                if first != "names":
                    self.assert_refused(NoRow, row.replace(" ", "  ", 1))
                    self.assert_refused(NoRow, "  ".join(row.rsplit(" ", 1)))
        self.assert_refused(NoText, ROWS["body"] + " ")
        self.assert_refused(NoText, "body n  0,0,0 1,0,0 0,1,0 0,0,1")
        self.assert_refused(NoText, "body n 0,0,0 1,0,0 0,1,0  0,0,1")
        self.assert_refused(NoText, "body n ")
        self.assert_refused(NoName, "body  n 0,0,0 1,0,0 0,1,0 0,0,1")
        self.assert_refused(NoRow, "body ")
        self.assert_refused(NoName, "body  ")

    def test_a_word_without_signs(self):
        for row in ("show ", "drop ", "own ", "sizes ", "faces ", "where  0,0,0", "meet a ", "meet  a", "sum n a ",
                    "sum n  b", "sum  a b", "fold  a 3", "alike  ", "shadow  1"):
            self.assert_refused(NoName, row)
        for row in ("where a ", "shares a ", "beyond a ", "shadow a ", "fold n a ", "move n a  0 0 0 1 0 0 0 1 0 0 0"):
            self.assert_refused(NoText, row)

    NO_NAMES = [
        "", "A", "aB", "Ab", "abcdefghi", "aaaaaaaaaaaaaaaa", "1", "a1", "1a", "_", "a_", "a-b", "-", "a.b", "a,b",
        "0,0,0", "a\n", "\na", "a\t", "\u00e9", "\u00df", "\u03b1", "\u00aa", "\uff41", "*", "|", "~", "'a'", "NEW",
    ]

    def test_no_names_for_new_ones(self):
        for word in self.NO_NAMES:
            self.assert_refused(NoName, f"body {word} 0,0,0 1,0,0 0,1,0 0,0,1")
            self.assert_refused(NoName, f"sum {word} a b")
            self.assert_refused(NoName, f"less {word} a b")
            self.assert_refused(NoName, f"fold {word} a 3")
            self.assert_refused(NoName, f"move {word} a {PUT_OFF}")

    def test_no_names_and_names_by_which_none_stands(self):
        for word in self.NO_NAMES + ["c", "aa", "ab", "n", "nosuch", "names", "body"]:
            for first, row in ROWS.items():
                words = row.split(" ")
                for k in range(1, len(words)):
                    if words[k] in ("a", "b"):
                        self.assert_refused(NoName, " ".join(words[:k] + [word] + words[k + 1:]))

    def test_names_of_one_to_eight_letters(self):
        for name in ("a", "z", "qq", "abcdefgh", "zzzzzzzz", "sum", "none", "ok"):
            self.assertEqual(self.desk.say(f"fold {name} a 3"), "ok")
            self.assertEqual(self.desk.say(f"fold a {name} 1"), "ok")

    NO_NUMBERS = ["", "x", "a", "007", "-0", "+1", "1.0", "1,2", "0,0,0", "1" * 41, "-" + "1" * 41, "1\n", "\t1", "--1",
                  "1/2"]
    NO_POINTS = ["", "x", "a", "0", "0,0", "0,0,0,0", "0,0,", "0,0,-0", "0,0,00", "0,0,0\n", "\t0,0,0", "0,0,+1",
                 "0,0," + "1" * 41, "0,0,x", "(0,0,0)"]

    def test_no_numbers(self):
        for word in self.NO_NUMBERS:
            self.assert_refused(NoText, f"fold n a {word}")
            self.assert_refused(NoText, f"shadow a {word}")
            numbers = PUT_OFF.split(" ")
            for k in range(12):
                row = " ".join(numbers[:k] + [word] + numbers[k + 1:])
                self.assert_refused(NoText, f"move n a {row}")

    def test_no_points(self):
        points = points_written(TETRA).split(" ")
        for word in self.NO_POINTS:
            self.assert_refused(NoText, f"where a {word}")
            self.assert_refused(NoText, f"shares a {word}")
            self.assert_refused(NoText, f"beyond a {word}")
            for k in range(4):
                self.assert_refused(NoText, "body n " + " ".join(points[:k] + [word] + points[k + 1:]))

    def test_names_come_before_texts_from_the_left(self):
        for row in ("where nosuch x", "shares A 0", "beyond A x", "fold A a x", "fold n nosuch x", "fold A nosuch x",
                    "shadow A x", "shadow nosuch 7", "body N x", "body N 0,0,0 x", "move N a 1 0 0 0 x 0 0 0 1 0 0 0",
                    "move n nosuch x 0 0 0 1 0 0 0 1 0 0 0"):
            self.assert_refused(NoName, row)

    def test_words_come_before_the_deed(self):
        self.assert_refused(NoText, "body n 0,0,0 x")
        self.assert_refused(NoText, "body n 0,0,0 0,0,0 0,0")
        self.assert_refused(NoText, "move n a 0 0 0 0 0 0 0 0 0 0 0 x")
        self.assert_refused(NoText, "move n a 2 0 0 0 1 0 0 0 1 0 0 -0")
        self.assert_refused(NoName, "body N 0,0,0 1,0,0")
        self.assert_refused(NoName, "fold N a 0")
        self.assert_refused(NoName, "fold n nosuch 0")
        self.assert_refused(NoName, "move N a 0 0 0 0 0 0 0 0 0 0 0 0")
        self.assert_refused(NoName, "move n nosuch 0 0 0 0 0 0 0 0 0 0 0 0")
        self.assert_refused(NoName, "shadow nosuch 3")

    def test_flat(self):
        for points in ("0,0,0", "0,0,0 0,0,0", "0,0,0 1,1,1", "0,0,0 1,0,0 0,1,0", "1,1,5 2,1,5 3,7,5 4,4,5 9,9,5"):
            self.assert_refused(Flat, f"body n {points}")
            self.assert_refused(Flat, f"body a {points}")
        self.assert_refused(Flat, "fold n a 0")
        self.assert_refused(Flat, "fold a a 0")

    def test_no_axis(self):
        for axis in (3, 4, -1, -2, 10 ** 39, -MOST):
            self.assert_refused(NoAxis, f"shadow a {axis}")

    def test_no_move(self):
        for numbers in ("0 0 0 0 0 0 0 0 0 0 0 0", "2 0 0 0 1 0 0 0 1 0 0 0", "1 0 0 0 1 0 0 0 -3 5 5 5",
                        "1 2 3 4 5 6 7 8 9 1 1 1"):
            self.assert_refused(NoMove, f"move n a {numbers}")
            self.assert_refused(NoMove, f"move a a {numbers}")

    def test_the_deed_comes_before_too_great(self):
        self.desk.say(f"fold b b {MOST}")
        self.assert_refused(NoMove, f"move n b {MOST} 0 0 0 1 0 0 0 1 0 0 0")
        self.assert_refused(NoMove, f"move n b 2 0 0 0 1 0 0 0 1 {MOST} 0 0")
        self.assert_refused(Flat, "fold n b 0")

    def test_too_great_by_its_corners(self):
        self.desk = desk_with(d=DRUM_FORTY, t=[(0, 0, 0), (1, 0, 7), (3, 5, 1), (2, -9, 4)])
        self.assert_refused(TooGreat, "sum n d t")
        self.assert_refused(TooGreat, "sum n t d")
        self.assert_refused(TooGreat, "less n d t")
        self.assert_refused(TooGreat, "less n t d")
        self.assert_refused(TooGreat, "less d d d")
        self.assert_refused(TooGreat, "sum t d t")
        self.assertEqual(self.desk.say("sum n d d"), "ok")
        self.assertEqual(self.desk.say("show n"), points_written(folded(DRUM_FORTY, 2)))

    def test_forty_corners_and_forty_one(self):
        curve = sorted((t, t * t, t ** 3) for t in range(13))
        forty, one_more = [(0, 3, 2), (1, 3, 2), (2, 3, 1), (3, 2, 3)], [(0, 1, 0), (2, 0, 2), (3, 1, 1), (3, 1, 2)]
        self.desk = desk_with(c=curve, f=forty, m=one_more)
        self.assertEqual(len(slow_corners(all_sums(curve, one_more))), 41)
        self.assert_refused(TooGreat, "sum n c m")
        self.assertEqual(self.desk.say("sum n c f"), "ok")
        self.assertEqual(self.desk.say("show n").count(" "), 39)

    def test_too_great_by_its_numbers(self):
        self.desk = desk_with(a=TETRA, g=[(0, 0, -MOST), (0, 0, MOST), (0, 1, 0), (1, 0, 0)], h=[
            (0, 0, 0), (0, 10, 0), (1, 0, 0), (0, 0, 9)])
        self.assert_refused(TooGreat, "fold n h " + str(10 ** 39))
        self.assert_refused(TooGreat, "fold n h -" + str(10 ** 39))
        self.assert_refused(TooGreat, "fold g g 2")
        self.assert_refused(TooGreat, "fold n g -2")
        self.assert_refused(TooGreat, "sum n g a")
        self.assert_refused(TooGreat, "sum g g g")
        self.assert_refused(TooGreat, "less n g a")
        self.assert_refused(TooGreat, "less n a g")
        self.assert_refused(TooGreat, "move n g 1 0 0 0 1 0 0 0 1 0 0 1")
        self.assert_refused(TooGreat, "move g g 1 0 0 0 1 0 0 0 1 0 0 -1")
        self.assert_refused(TooGreat, f"move n h 1 {MOST} 0 0 1 0 0 0 1 0 0 0")
        self.assertEqual(self.desk.say(f"fold n a {MOST}"), "ok")
        self.assertEqual(self.desk.say(f"fold n a -{MOST}"), "ok")
        self.assertEqual(self.desk.say("fold n g -1"), "ok")
        self.assertEqual(self.desk.say(f"move n g 1 0 0 0 1 0 0 0 1 {MOST - 1} -{MOST} 0"), "ok")

    def test_each_number_of_a_point_may_be_the_great_one(self):
        for off in (f"{MOST} 0 0", f"0 {MOST} 0", f"0 0 {MOST}"):
            self.assert_refused(TooGreat, f"move n a 1 0 0 0 1 0 0 0 1 {off}")
        for off in (f"{MOST - 1} 0 0", f"0 {MOST - 1} 0", f"0 0 {MOST - 1}"):
            self.assertEqual(self.desk.say(f"move n a 1 0 0 0 1 0 0 0 1 {off}"), "ok")
        for off in (f"-{MOST} 0 0", f"0 -{MOST} 0", f"0 0 -{MOST}"):
            self.assertEqual(self.desk.say(f"move n a 1 0 0 0 1 0 0 0 1 {off}"), "ok")
            self.assert_refused(TooGreat, f"move n a -1 0 0 0 -1 0 0 0 -1 {off}")


class SaidAgain(unittest.TestCase):
    """[2] by rows: the same asked again is answered the same, and asking changes nothing."""

    def test_asking_changes_nothing(self):
        desk = desk_with(a=PYRAMID, b=BOX)
        before = all_kept(desk)
        for first, row in ROWS.items():
            if first not in ("body", "sum", "less", "fold", "move", "drop"):
                with self.subTest(row):
                    self.assertEqual(desk.say(row), desk.say(row))
                    self.assertEqual(all_kept(desk), before)

    def test_another_desk_told_the_same_answers_the_same(self):
        rows = list(ROWS.values())
        rows.remove("drop a")
        one, other = small_desk(), small_desk()
        self.assertEqual([one.say(row) for row in rows], [other.say(row) for row in rows])
        self.assertEqual([one.say(row) for row in rows], [other.say(row) for row in rows])


if __name__ == "__main__":
    unittest.main()
