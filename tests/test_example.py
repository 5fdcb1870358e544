"""The worked example of the document."""

import unittest

from tests.helper import (
    JOINTS, SHOWN, UNDO, WORKED, WORTH, ask, change, compare, load, same, shown_text, try_out, without,
)

LOOKED_UP = (
    (without(2), [3, 2, 3, 6, 1, 1]),
    (WORTH, [3, 3, 2, 1, 1, 0, 0, 1]),
    (JOINTS, [2, 3, 1, 6, 0]),
    (compare(3, 6), [0, 2, 0, 1]),
    (compare(3, 5), [1, 2, 0, 0]),
    (same(3), [2, 3, 5]),
    (try_out(0, "x > y > y ;"), [6, 3, 0, 3, 3, 3, 3, 3, 1, 1, 1, 1, 1, 0]),
)
CHANGED = (
    (change(0, "x > x ;"), [6, 3, 0, 3, 4, 3, 4, 4, 1, 1, 1, 1, 0, 0]),
    (UNDO, [6]),
)


class WorkedExample(unittest.TestCase):
    def test_whole_in_one_list(self):
        pairs = LOOKED_UP + CHANGED
        told = ask(load(WORKED), *[call for call, answer in pairs])
        self.assertEqual(told, [[1, 2, 5, 3]] + [answer for call, answer in pairs])

    def test_call_by_call(self):
        for call, answer in LOOKED_UP + CHANGED[:1]:
            self.assertEqual(ask(load(WORKED), call), [[1, 2, 5, 3], answer])
        self.assertEqual(ask(load(WORKED), CHANGED[0][0], UNDO)[2], [6])

    def test_after_the_undo_all_is_as_before(self):
        told = ask(load(WORKED), CHANGED[0][0], UNDO, *[call for call, answer in LOOKED_UP], UNDO)
        self.assertEqual(told[3:], [answer for call, answer in LOOKED_UP] + [[-3]])

    def test_shown_when_changed(self):
        told = ask(load(WORKED), change(0, "x > x ;"), SHOWN)
        first = shown_text(WORKED)
        self.assertEqual(bytes(told[2][1:]).decode(), first.replace("k : x0 > x1 > x0 ;", "k : x0 > x0 ;"))

    def test_every_item_taken_away(self):
        told = ask(load(WORKED), *[without(item) for item in range(7)])[1:]
        self.assertEqual(told, [
            [6, 0, 2, 3, 4, 5, 6, 3, 0, 1, 2],
            [6, 1, 2, 3, 4, 5, 6, 2, 0, 1],
            [3, 2, 3, 6, 1, 1],
            [2, 3, 6, 1, 1],
            [2, 4, 5, 0],
            [1, 5, 0],
            [1, 6, 1, 1],
        ])

    def test_shown(self):
        self.assertEqual(shown_text(WORKED), (
            "axiom k : x0 > x1 > x0 ;\n"
            "axiom s : ( x0 > x1 > x2 ) > ( x0 > x1 ) > x0 > x2 ;\n"
            "row a : s, k ;\n"
            "row i : a, k ;\n"
            "row c : s, k ;\n"
            "row e : c, k ;\n"
            "row j : k, i ;\n"
            "goal x0 > x0 ;\n"
            "goal x0 > x1 > x1 ;\n"
            "goal x0 > x1 > x0 ;\n"
        ))

    def test_shown_loads_to_the_same_answers(self):
        again = shown_text(WORKED)
        calls = [SHOWN, WORTH, JOINTS] + [without(item) for item in range(7)]
        self.assertEqual(ask(load(again), *calls), ask(load(WORKED), *calls))
