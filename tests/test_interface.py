"""The interface: each function is there under its name, with its arguments as they stand."""

import inspect
import unittest

from stakebodies import bodies, desk, edges, likeness, meetings, moves, papers, rooms, spaces, sums, texts

FUNCTIONS = [
    (spaces, "way_between", ["P", "Q"]),
    (spaces, "cross_of", ["u", "v"]),
    (spaces, "product_of", ["u", "v"]),
    (spaces, "lift_of", ["P", "Q", "R", "S"]),
    (spaces, "plane_through", ["P", "Q", "R"]),
    (spaces, "side_of", ["plane", "P"]),
    (bodies, "dimension_of", ["points"]),
    (bodies, "body_of", ["points"]),
    (bodies, "is_body", ["points"]),
    (bodies, "faces_of", ["points"]),
    (edges, "edges_of", ["land"]),
    (edges, "where_in", ["land", "P"]),
    (papers, "shares_of", ["land", "P"]),
    (papers, "shares_show", ["land", "P", "pairs"]),
    (papers, "plane_beyond", ["land", "P"]),
    (papers, "plane_bars", ["land", "P", "plane"]),
    (rooms, "sixfold_room", ["land"]),
    (rooms, "rooms_seen", ["land", "V"]),
    (rooms, "shadow_of", ["land", "axis"]),
    (rooms, "shadow_area", ["land", "axis"]),
    (sums, "body_fold", ["land", "k"]),
    (sums, "body_sum", ["one", "other"]),
    (sums, "body_difference", ["one", "other"]),
    (meetings, "meeting_of", ["one", "other"]),
    (meetings, "parting_of", ["one", "other"]),
    (moves, "is_move", ["thing"]),
    (moves, "moved", ["P", "move"]),
    (moves, "behind", ["first", "second"]),
    (moves, "way_back", ["move"]),
    (moves, "body_moved", ["land", "move"]),
    (likeness, "alike", ["one", "other"]),
    (likeness, "own_moves", ["land"]),
    (texts, "read_number", ["text"]),
    (texts, "read_point", ["text"]),
    (texts, "read_points", ["text"]),
    (texts, "show_points", ["points"]),
]


class Interface(unittest.TestCase):
    def test_names_and_arguments(self):
        for module, name, arguments in FUNCTIONS:
            with self.subTest(name):
                function = getattr(module, name)
                self.assertEqual(function.__module__, module.__name__)
                self.assertEqual(list(inspect.signature(function).parameters), arguments)

    def test_the_desk(self):
        self.assertEqual(list(inspect.signature(desk.Desk).parameters), [])
        self.assertEqual(desk.Desk.__module__, desk.__name__)
        self.assertEqual(list(inspect.signature(desk.Desk().say).parameters), ["row"])


if __name__ == "__main__":
    unittest.main()
