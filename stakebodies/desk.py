"""A desk that keeps bodies by names, is told rows, and answers each with a text."""

from stakebodies.bodies import body_of, faces_of
from stakebodies.edges import edges_of, where_in
from stakebodies.errors import NoName, NoRow, TooGreat
from stakebodies.likeness import alike, own_moves
from stakebodies.meetings import meeting_of, parting_of
from stakebodies.moves import body_moved
from stakebodies.papers import plane_beyond, shares_of
from stakebodies.rooms import shadow_of, sixfold_room
from stakebodies.sums import body_difference, body_fold, body_sum
from stakebodies.texts import (
    MOST_POINTS, read_number, read_point, show_by_blanks, show_by_commas, show_points, show_shares,
)

LETTERS = "abcdefghijklmnopqrstuvwxyz"
MOST_LETTERS = 8
MOST_CORNERS = 40
PLACES = {1: "in", 0: "on", -1: "out"}

# What the words behind the first one are to be. The row `body` is not here: it has no one
# count of words.
WANTED = {
    "sum": ("new", "name", "name"),
    "less": ("new", "name", "name"),
    "fold": ("new", "name", "number"),
    "move": (
        "new", "name", "number", "number", "number", "number", "number", "number", "number", "number", "number",
        "number", "number", "number",
    ),
    "drop": ("name",),
    "names": (),
    "show": ("name",),
    "sizes": ("name",),
    "faces": ("name",),
    "where": ("name", "point"),
    "shares": ("name", "point"),
    "beyond": ("name", "point"),
    "shadow": ("name", "number"),
    "meet": ("name", "name"),
    "part": ("name", "name"),
    "alike": ("name", "name"),
    "own": ("name",),
}


def make_body(given):
    return body_of(given)


def make_sum(given):
    return body_sum(given[0], given[1])


def make_difference(given):
    return body_difference(given[0], given[1])


def make_fold(given):
    return body_fold(given[0], given[1])


def make_moved(given):
    return body_moved(given[0], tuple(given[1:]))


def tell_corners(given):
    return show_points(given[0])


def tell_sizes(given):
    land = given[0]
    return show_by_blanks([len(land), len(edges_of(land)), len(faces_of(land)), sixfold_room(land)])


def tell_faces(given):
    return show_points([plane for plane, ring in faces_of(given[0])])


def tell_place(given):
    return PLACES[where_in(given[0], given[1])]


def tell_shares(given):
    shares = shares_of(given[0], given[1])
    return "none" if shares is None else show_shares(shares)


def show_plane(plane):
    return "none" if plane is None else show_by_commas(plane)


def tell_beyond(given):
    return show_plane(plane_beyond(given[0], given[1]))


def tell_shadow(given):
    return show_points(shadow_of(given[0], given[1]))


def tell_meeting(given):
    meeting = meeting_of(given[0], given[1])
    return "none" if meeting is None else show_shares(meeting[0]) + " | " + show_shares(meeting[1])


def tell_parting(given):
    return show_plane(parting_of(given[0], given[1]))


def tell_alike(given):
    move = alike(given[0], given[1])
    return "no" if move is None else show_by_blanks(move)


def tell_own_moves(given):
    return str(len(own_moves(given[0])))


MAKES = {"body": make_body, "sum": make_sum, "less": make_difference, "fold": make_fold, "move": make_moved}
TELLS = {
    "show": tell_corners,
    "sizes": tell_sizes,
    "faces": tell_faces,
    "where": tell_place,
    "shares": tell_shares,
    "beyond": tell_beyond,
    "shadow": tell_shadow,
    "meet": tell_meeting,
    "part": tell_parting,
    "alike": tell_alike,
    "own": tell_own_moves,
}


def wanted_behind(first, count):
    if first == "body" and 2 <= count <= 1 + MOST_POINTS:
        return ("new",) + ("point",) * (count - 1)
    return WANTED.get(first)


def words_in(row):
    if not isinstance(row, str):
        raise NoRow("a row is a text")
    return row.split(" ")


def wanted_in(words):
    count = len(words) - 1
    wanted = wanted_behind(words[0], count)
    if wanted is None or len(wanted) != count:
        raise NoRow("no row has this first word and so many words")
    return wanted


def read_new_name(word):
    if not 1 <= len(word) <= MOST_LETTERS or any([sign not in LETTERS for sign in word]):
        raise NoName("a name is one to eight small letters")
    return word


def refuse_too_great(land):
    if len(land) > MOST_CORNERS:
        raise TooGreat("a body at the desk has forty corners at most")
    for P in land:
        if max([abs(number) for number in P]) >= 10 ** 40:
            raise TooGreat("a body at the desk has numbers of forty figures at most")


class Desk:
    def __init__(self):
        self.standing = {}

    def say(self, row):
        words = words_in(row)
        given = [self.read_word(want, word) for want, word in zip(wanted_in(words), words[1:])]
        if words[0] in MAKES:
            return self.put(given[0], MAKES[words[0]](given[1:]))
        if words[0] in TELLS:
            return TELLS[words[0]](given)
        if words[0] == "drop":
            return self.drop(words[1])
        return " ".join(sorted(self.standing))

    def read_word(self, want, word):
        if want == "point":
            return read_point(word)
        if want == "number":
            return read_number(word)
        if want == "new":
            return read_new_name(word)
        if word not in self.standing:
            raise NoName("no body stands by this word")
        return self.standing[word]

    def put(self, name, land):
        refuse_too_great(land)
        self.standing[name] = land
        return "ok"

    def drop(self, name):
        self.standing.pop(name)
        return "ok"
