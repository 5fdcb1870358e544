"""The calls in one list: their reading, refusals without a text, and that nothing is kept or changed."""

import unittest

from proofworth.items import answers

from tests.helper import (
    JOINTS, SHOWN, UNDO, WORKED, WORTH, ask, change, codes, compare, load, same, try_out, without,
)


class WhileThereIsNoText(unittest.TestCase):
    def test_every_call_but_load(self):
        for call in (SHOWN, without(0), WORTH, JOINTS, try_out(0), change(0), UNDO, compare(0, 0), same(0)):
            self.assertEqual(ask(call), [[-1]])
            self.assertEqual(ask(load("axiom"), call, call), [[0, 3, 5], [-1], [-1]])

    def test_before_all_else(self):
        for number in (-1, 30, 10 ** 18, -10 ** 18):
            for call in (without(number), try_out(number), change(number), compare(number, number), same(number),
                         try_out(number, []), change(number, [255] * 8192), try_out(0, codes("x x"))):
                self.assertEqual(ask(call), [[-1]])

    def test_each_call_ends_where_the_next_begins(self):
        calls = [SHOWN, try_out(3, [0, 1, 2, 3]), without(7), change(-5, []), WORTH, UNDO, compare(0, 4), JOINTS,
                 same(4), try_out(0, []), load("axiom a : x ;"), without(0)]
        self.assertEqual(ask(*calls), [[-1]] * 10 + [[1, 1, 0, 0], [1, 0, 0]])


class SeveralCalls(unittest.TestCase):
    def test_forty(self):
        calls = [load(WORKED)] + [without(number % 8) for number in range(38)] + [JOINTS]
        told = ask(*calls)
        self.assertEqual(len(told), 40)
        self.assertEqual(told[0], [1, 2, 5, 3])
        for number in range(38):
            alone = ask(load(WORKED), without(number % 8))[1]
            self.assertEqual(told[1 + number], alone)
            self.assertEqual(alone == [-2], number % 8 == 7)
        self.assertEqual(told[39], [2, 3, 1, 6, 0])

    def test_forty_of_every_kind(self):
        turns = [SHOWN, without(2), WORTH, JOINTS, try_out(0, "x ;"), change(0), compare(3, 6), same(3), UNDO]
        told = ask(load(WORKED), *(turns * 4), load("axiom a : x ;"), change(0), SHOWN)
        self.assertEqual(len(told), 40)
        for turn in range(1, 4):
            self.assertEqual(told[1 + 9 * turn:10 + 9 * turn], told[1:10])
        self.assertEqual(told[37:39], [[1, 1, 0, 0], [1, 2]])
        self.assertEqual(bytes(told[39][1:]), b"axiom a : x0 > x0 ;\n")

    def test_forty_loads(self):
        told = ask(*[load(f"axiom a{number} : x ;") for number in range(39)], SHOWN)
        self.assertEqual(told[:39], [[1, 1, 0, 0]] * 39)
        self.assertEqual(bytes(told[39][1:]), b"axiom a38 : x0 ;\n")

    def test_an_answer_is_told_behind_its_count(self):
        text = codes("axiom a : x ;")
        calls = [0, len(text)] + text + [3, 2, 5, 4, 1]
        form = list(b"axiom a : x0 ;\n")
        self.assertEqual(answers(calls), [4, 1, 1, 0, 0, 2, 0, 0, 1, -2, 1, 0, 16, 15] + form)

    def test_one_call(self):
        self.assertEqual(answers([1]), [1, -1])
        self.assertEqual(answers([0, 0]), [3, 0, 3, 0])

    def test_longest_list(self):
        wide = "axiom a : x ;" + " " * 4083
        told = ask(load(wide), load(wide), load(wide), load(wide), SHOWN)
        self.assertEqual(told[:4], [[1, 1, 0, 0]] * 4)

    def test_longest_formula(self):
        told = ask(load("axiom a : x ;"), change(0, [120] * 8192), try_out(0, [120] * 8192), SHOWN, UNDO)
        self.assertEqual(told[1:3], [[0, 1, 4096]] * 2)
        self.assertEqual(bytes(told[3][1:]), b"axiom a : x0 ;\n")
        self.assertEqual(told[4], [-3])

    def test_longest_text(self):
        self.assertEqual(ask(load([32] * 8192), load([32] * 8192)), [[0, 1, 4096]] * 2)


class NothingIsKeptOrChanged(unittest.TestCase):
    def whole(self):
        calls = load(WORKED) + without(2) + WORTH + JOINTS + SHOWN + load("axiom") + without(-1)
        calls += try_out(0, "x > y > y ;") + change(0, "x > x ;") + change(1, "x x ;") + change(2) + SHOWN
        return calls + compare(3, 6) + compare(0, -1) + same(3) + same(7) + UNDO + UNDO + SHOWN + WORTH

    def test_the_list_is_the_same_afterwards(self):
        calls = self.whole()
        before = list(calls)
        answers(calls)
        self.assertEqual(calls, before)

    def test_the_same_list_is_answered_alike(self):
        calls = self.whole()
        self.assertEqual(answers(calls), answers(calls))
        self.assertIsNot(answers(calls), answers(calls))

    def test_a_changed_answer_changes_no_other(self):
        first = answers(self.whole())
        kept = list(first)
        first.clear()
        self.assertEqual(answers(self.whole()), kept)

    def test_the_object_is_new_each_time(self):
        answers(load(WORKED) + change(0))
        self.assertEqual(answers([3]), [1, -1])
        self.assertEqual(answers(UNDO), [1, -1])
        self.assertEqual(ask(load(WORKED), UNDO), [[1, 2, 5, 3], [-3]])

    def test_whole_numbers_in_a_list(self):
        told = answers(self.whole())
        self.assertIs(type(told), list)
        for number in told:
            self.assertIs(type(number), int)
