"""Point [21]: numbers and points as texts, read and written."""

import unittest

from stakebodies.errors import BodyError, NoText
from stakebodies.texts import read_number, read_point, read_points, show_points
from tests.shapes import BODIES, BOX, PYRAMID, TETRA, Dice

FORTY = "1" + "0" * 39
FORTY_NINES = "9" * 40

NUMBERS = {
    "0": 0, "1": 1, "9": 9, "10": 10, "42": 42, "100": 100, "-1": -1, "-9": -9, "-10": -10, "-305": -305,
    "1234567890": 1234567890, FORTY: 10 ** 39, "-" + FORTY: -10 ** 39, FORTY_NINES: 10 ** 40 - 1,
    "-" + FORTY_NINES: 1 - 10 ** 40,
}
# Texts that are no number; each is no point and no points either.
NO_NUMBERS = [
    "", " ", "-", "--1", "-+1", "+1", "+0", "1-", "1-1", "- 1", "007", "00", "01", "-0", "-00", "-01", "-007",
    "0" * 40, "0" * 41, "1" * 41, "-" + "1" * 41, "1" + "0" * 40, "0" + "1" * 40, "1" * 4301, "1" * 20000,
    " 1", "1 ", " 1 ", "1\n", "\n1", "1\t", "\t1", "1\r", "1\n\n", "-1\n", "0\n", "1 2", "1  2", "1.0", "1.", ".5",
    "1e3", "1E3", "0x1", "0b1", "0o7", "1_000", "_1", "1_", "one", "a", "1a", "a1", "inf", "nan", "None", "True", "~",
    "1/2", "1,", ",1", ",", "1,000", "(1)", "'1'", "1;", "1|2", "1*1", "%", "1%", "\\1",
    # figures of other kinds, which Python's own reading takes
    "\u0663", "\u06f3\u06f4", "\u0967", "\uff11", "\u00b2", "\u2460", "\u00bd", "\u4e00", "1\u0660", "\u22121",
    "\u00a01", "1\u2003", "\u200b1",
]
NO_TEXTS = [
    None, True, False, 0, 1, -1, 10 ** 40, 10 ** 5000, 1.0, float("nan"), b"1", b"1,2,3", b"", [], ["1"], ["1,2,3"],
    (), ("1",), (1, 2, 3), [(1, 2, 3)], {}, {"1": 1}, {"1"}, object(), str, len, bytearray(b"1"), range(3), iter("1"),
]

POINTS = {
    "0,0,0": (0, 0, 0), "1,2,3": (1, 2, 3), "-1,0,10": (-1, 0, 10), "7,-8,-9": (7, -8, -9),
    f"{FORTY_NINES},-{FORTY_NINES},{FORTY}": (10 ** 40 - 1, 1 - 10 ** 40, 10 ** 39),
}
NO_POINTS = [
    "", ",", ",,", "1", "1,2", "1,2,3,4", "1,2,3,", ",1,2,3", "1,,3", ",2,3", "1,2,", "1,2,,3", " 1,2,3", "1,2,3 ",
    "1, 2,3", "1 ,2,3", "1,2, 3", "1,2,3\n", "1,2,3\t", "\n1,2,3", "1,2\n,3", "1;2;3", "1 2 3", "(1,2,3)", "[1,2,3]",
    "1,2,3 4,5,6", "01,2,3", "1,-0,3", "1,2,+3", "1,2,007", "a,b,c", "1,2,x", "1.0,2,3", "1,2,3.", "0,0,-",
    "1" * 41 + ",2,3", "1," + "2" * 41 + ",3", "1,2,-" + "3" * 41, "1,2,\u0663", "\uff11,2,3", "1\uff0c2\uff0c3",
    "1,2" + "," * 19000,
]


class Numbers(unittest.TestCase):
    def test_numbers(self):
        for text, number in NUMBERS.items():
            with self.subTest(text):
                told = read_number(text)
                self.assertEqual(told, number)
                self.assertIs(told.__class__, int)

    def test_all_small_ones(self):
        for number in range(-1200, 1200):
            self.assertEqual(read_number(str(number)), number)

    def test_forty_figures_and_no_more(self):
        for sign in ("", "-"):
            for count in (39, 40):
                self.assertEqual(read_number(sign + "7" * count), int(sign + "7" * count))
            for count in (41, 42, 80, 400):
                with self.assertRaises(NoText):
                    read_number(sign + "7" * count)

    def test_what_is_none(self):
        for text in NO_NUMBERS:
            with self.subTest(text[:50]):
                with self.assertRaises(NoText) as caught:
                    read_number(text)
                self.assertIsInstance(caught.exception, BodyError)

    def test_what_is_no_text(self):
        for thing in NO_TEXTS:
            for read in (read_number, read_point, read_points):
                with self.subTest(read=read.__name__, kind=thing.__class__.__name__):
                    with self.assertRaises(NoText):
                        read(thing)

    def test_one_strange_sign_at_any_place(self):
        for code in range(32, 127):
            sign = chr(code)
            if sign not in "0123456789":
                for text in ("12" + sign, "1" + sign + "2", sign + "12"):
                    if text != "-12":
                        with self.assertRaises(NoText):
                            read_number(text)


class OnePoint(unittest.TestCase):
    def test_points(self):
        for text, point in POINTS.items():
            with self.subTest(text):
                told = read_point(text)
                self.assertEqual(told, point)
                self.assertIs(told.__class__, tuple)

    def test_what_is_none(self):
        for text in NO_POINTS:
            with self.subTest(text[:50]):
                with self.assertRaises(NoText):
                    read_point(text)

    def test_what_is_no_number_at_each_place(self):
        for text in NO_NUMBERS:
            for numbers in ([text, "2", "3"], ["1", text, "3"], ["1", "2", text]):
                with self.subTest(text[:50]):
                    with self.assertRaises(NoText):
                        read_point(",".join(numbers))


class ManyPoints(unittest.TestCase):
    def test_points(self):
        self.assertEqual(read_points("1,2,3"), [(1, 2, 3)])
        self.assertEqual(read_points("1,2,3 -4,5,-6"), [(1, 2, 3), (-4, 5, -6)])
        self.assertEqual(read_points("0,0,0 0,0,0"), [(0, 0, 0), (0, 0, 0)])
        self.assertEqual(read_points(" ".join(POINTS)), list(POINTS.values()))

    def test_in_the_order_of_the_text(self):
        self.assertEqual(read_points("9,9,9 1,1,1 5,5,5"), [(9, 9, 9), (1, 1, 1), (5, 5, 5)])

    def test_forty_and_forty_one(self):
        for count in (1, 2, 39, 40):
            self.assertEqual(read_points(" ".join(["1,2,3"] * count)), [(1, 2, 3)] * count)
        for count in (41, 42, 80, 3000):
            with self.assertRaises(NoText):
                read_points(" ".join(["1,2,3"] * count))

    def test_forty_of_forty_figures(self):
        text = " ".join([f"-{FORTY_NINES},{FORTY_NINES},-{FORTY}"] * 40)
        self.assertEqual(read_points(text), [(1 - 10 ** 40, 10 ** 40 - 1, -10 ** 39)] * 40)

    def test_blanks(self):
        for text in (
            "", " ", "  ", "1,2,3 ", " 1,2,3", "1,2,3  4,5,6", "1,2,3   4,5,6", "1,2,3 4,5,6 ", " 1,2,3 4,5,6",
            "1,2,3\t4,5,6", "1,2,3\n4,5,6", "1,2,3 \n", "1,2,3 4,5,6\n", "1,2,3,4,5,6", "1,2,3;4,5,6",
            "1,2,3\u00a04,5,6",
        ):
            with self.subTest(text):
                with self.assertRaises(NoText):
                    read_points(text)

    def test_what_is_no_point_at_each_place(self):
        for text in NO_POINTS:
            if text != "1,2,3 4,5,6":
                for points in ([text], [text, "4,5,6"], ["4,5,6", text], ["4,5,6", text, "7,8,9"]):
                    with self.subTest(text[:50]):
                        with self.assertRaises(NoText):
                            read_points(" ".join(points))


class Written(unittest.TestCase):
    def test_points(self):
        self.assertEqual(show_points([(1, 2, 3)]), "1,2,3")
        self.assertEqual(show_points([(0, -1, 0), (10, 20, -30)]), "0,-1,0 10,20,-30")
        self.assertEqual(show_points(TETRA), "0,0,0 0,0,1 0,1,0 1,0,0")
        self.assertEqual(show_points([(5, 5, 5), (1, 1, 1), (5, 5, 5)]), "5,5,5 1,1,1 5,5,5")

    def test_what_is_written_is_read_to_the_same(self):
        dice = Dice(21)
        thrown = [tuple(dice.below(10 ** 9) ** 4 - 10 ** 35 for k in range(3)) for k in range(40)]
        lists = list(BODIES.values()) + [[P] for P in POINTS.values()] + [list(POINTS.values()), thrown]
        lists.append([(10 ** 40 - 1, 1 - 10 ** 40, -10 ** 39)] * 40)
        for points in lists:
            self.assertEqual(read_points(show_points(points)), points)

    def test_what_is_read_is_written_to_the_same(self):
        for text in list(POINTS) + [" ".join(POINTS), " ".join(["-7,0,7"] * 40)]:
            self.assertEqual(show_points(read_points(text)), text)

    def test_what_is_read_is_the_askers_own(self):
        for read, text in ((read_points, show_points(BOX)), (read_points, show_points(PYRAMID))):
            first = read(text)
            kept = list(first)
            first.append("spoiled")
            self.assertEqual(read(text), kept)


if __name__ == "__main__":
    unittest.main()
