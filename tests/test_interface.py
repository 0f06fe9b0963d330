"""The interface: each function is there under its name, with its arguments as they stand."""

import inspect
import unittest

from stakebodies import bodies, edges, spaces

FUNCTIONS = [
    (spaces, "way_between", ["P", "Q"]),
    (spaces, "cross_of", ["u", "v"]),
    (spaces, "product_of", ["u", "v"]),
    (spaces, "lift_of", ["P", "Q", "R", "S"]),
    (spaces, "plane_through", ["P", "Q", "R"]),
    (spaces, "side_of", ["plane", "P"]),
    (bodies, "dimension_of", ["points"]),
    (bodies, "body_of", ["points"]),
    (bodies, "is_body", ["points"]),
    (bodies, "faces_of", ["points"]),
    (edges, "edges_of", ["land"]),
    (edges, "where_in", ["land", "P"]),
]


class Interface(unittest.TestCase):
    def test_names_and_arguments(self):
        for module, name, arguments in FUNCTIONS:
            with self.subTest(name):
                function = getattr(module, name)
                self.assertEqual(function.__module__, module.__name__)
                self.assertEqual(list(inspect.signature(function).parameters), arguments)


if __name__ == "__main__":
    unittest.main()
