"""The worked example of the document."""

import unittest

from tests.helper import JOINTS, SHOWN, WORKED, WORTH, ask, load, shown_text, without


class WorkedExample(unittest.TestCase):
    def test_answers(self):
        told = ask(load(WORKED), without(2), WORTH, JOINTS)
        self.assertEqual(told, [
            [1, 2, 5, 3],
            [3, 2, 3, 6, 1, 1],
            [3, 3, 2, 1, 1, 0, 0, 1],
            [2, 3, 1, 6, 0],
        ])

    def test_every_item_taken_away(self):
        told = ask(load(WORKED), *[without(item) for item in range(7)])[1:]
        self.assertEqual(told, [
            [6, 0, 2, 3, 4, 5, 6, 3, 0, 1, 2],
            [6, 1, 2, 3, 4, 5, 6, 2, 0, 1],
            [3, 2, 3, 6, 1, 1],
            [2, 3, 6, 1, 1],
            [2, 4, 5, 0],
            [1, 5, 0],
            [1, 6, 1, 1],
        ])

    def test_shown(self):
        self.assertEqual(shown_text(WORKED), (
            "axiom k : x0 > x1 > x0 ;\n"
            "axiom s : ( x0 > x1 > x2 ) > ( x0 > x1 ) > x0 > x2 ;\n"
            "row a : s, k ;\n"
            "row i : a, k ;\n"
            "row c : s, k ;\n"
            "row e : c, k ;\n"
            "row j : k, i ;\n"
            "goal x0 > x0 ;\n"
            "goal x0 > x1 > x1 ;\n"
            "goal x0 > x1 > x0 ;\n"
        ))

    def test_shown_loads_to_the_same_answers(self):
        again = shown_text(WORKED)
        calls = [SHOWN, WORTH, JOINTS] + [without(item) for item in range(7)]
        self.assertEqual(ask(load(again), *calls), ask(load(WORKED), *calls))
