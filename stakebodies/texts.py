"""Numbers and points as texts, read and written."""

from stakebodies.errors import NoText

FIGURES = "0123456789"
MOST_FIGURES = 40
MOST_POINTS = 40


# Python's own `isdigit` and `int` take more than is a number here: other figures, blanks at
# the ends, a + in front.
def is_number(text):
    figures = text[1:] if text.startswith("-") else text
    if not 1 <= len(figures) <= MOST_FIGURES:
        return False
    if any([sign not in FIGURES for sign in figures]):
        return False
    return text == "0" or not figures.startswith("0")


def refuse_other_than_text(thing):
    if not isinstance(thing, str):
        raise NoText("this is no text")


def read_number(text):
    refuse_other_than_text(text)
    if not is_number(text):
        raise NoText("a number is one to forty figures, the first of several no 0, behind a - or not")
    return int(text)


def read_point(text):
    refuse_other_than_text(text)
    numbers = text.split(",")
    if len(numbers) != 3:
        raise NoText("a point is three numbers with a comma between each two")
    return tuple([read_number(number) for number in numbers])


def read_points(text):
    refuse_other_than_text(text)
    points = text.split(" ")
    if len(points) > MOST_POINTS:
        raise NoText("points are forty at most")
    return [read_point(point) for point in points]


def show_by_commas(numbers):
    return ",".join([str(number) for number in numbers])


def show_by_blanks(numbers):
    return " ".join([str(number) for number in numbers])


# Points, planes and corners of shadows alike: tuples of numbers.
def show_points(points):
    return " ".join([show_by_commas(P) for P in points])


def show_fraction(fraction):
    if fraction[1] == 1:
        return str(fraction[0])
    return str(fraction[0]) + "/" + str(fraction[1])


def show_share(pair):
    return show_by_commas(pair[0]) + "*" + show_fraction(pair[1])


def show_shares(shares):
    return " ".join([show_share(pair) for pair in shares])
