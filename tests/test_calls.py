"""The calls in one list: their reading, refusals without a text, and that nothing is kept or changed."""

import unittest

from proofworth.items import answers

from tests.helper import JOINTS, SHOWN, UNDO, WORKED, WORTH, ask, codes, load, without

FORMULA = codes("x > x ;")


def try_out(axiom, formula=FORMULA):
    return [5, axiom, len(formula)] + list(formula)


def change(axiom, formula=FORMULA):
    return [6, axiom, len(formula)] + list(formula)


def compare(first, second):
    return [8, first, second]


def same(item):
    return [9, item]


class WhileThereIsNoText(unittest.TestCase):
    def test_every_call_but_load(self):
        for call in (SHOWN, without(0), WORTH, JOINTS, try_out(0), change(0), UNDO, compare(0, 0), same(0)):
            self.assertEqual(ask(call), [[-1]])
            self.assertEqual(ask(load("axiom"), call, call), [[0, 3, 5], [-1], [-1]])

    def test_before_all_else(self):
        for number in (-1, 30, 10 ** 18, -10 ** 18):
            for call in (without(number), try_out(number), change(number), compare(number, number), same(number),
                         try_out(number, []), change(number, [255] * 8192), try_out(0, codes("x x"))):
                self.assertEqual(ask(call), [[-1]])

    def test_each_call_ends_where_the_next_begins(self):
        calls = [SHOWN, try_out(3, [0, 1, 2, 3]), without(7), change(-5, []), WORTH, UNDO, compare(0, 4), JOINTS,
                 same(4), try_out(0, []), load("axiom a : x ;"), without(0)]
        self.assertEqual(ask(*calls), [[-1]] * 10 + [[1, 1, 0, 0], [1, 0, 0]])


class SeveralCalls(unittest.TestCase):
    def test_forty(self):
        calls = [load(WORKED)] + [without(number % 8) for number in range(38)] + [JOINTS]
        told = ask(*calls)
        self.assertEqual(len(told), 40)
        self.assertEqual(told[0], [1, 2, 5, 3])
        for number in range(38):
            alone = ask(load(WORKED), without(number % 8))[1]
            self.assertEqual(told[1 + number], alone)
            self.assertEqual(alone == [-2], number % 8 == 7)
        self.assertEqual(told[39], [2, 3, 1, 6, 0])

    def test_forty_loads(self):
        told = ask(*[load(f"axiom a{number} : x ;") for number in range(39)], SHOWN)
        self.assertEqual(told[:39], [[1, 1, 0, 0]] * 39)
        self.assertEqual(bytes(told[39][1:]), b"axiom a38 : x0 ;\n")

    def test_an_answer_is_told_behind_its_count(self):
        text = codes("axiom a : x ;")
        calls = [0, len(text)] + text + [3, 2, 5, 4, 1]
        form = list(b"axiom a : x0 ;\n")
        self.assertEqual(answers(calls), [4, 1, 1, 0, 0, 2, 0, 0, 1, -2, 1, 0, 16, 15] + form)

    def test_one_call(self):
        self.assertEqual(answers([1]), [1, -1])
        self.assertEqual(answers([0, 0]), [3, 0, 3, 0])

    def test_longest_list(self):
        wide = "axiom a : x ;" + " " * 4083
        told = ask(load(wide), load(wide), load(wide), load(wide), SHOWN)
        self.assertEqual(told[:4], [[1, 1, 0, 0]] * 4)

    def test_longest_text(self):
        self.assertEqual(ask(load([32] * 8192), load([32] * 8192)), [[0, 1, 4096]] * 2)


class NothingIsKeptOrChanged(unittest.TestCase):
    def whole(self):
        return load(WORKED) + without(2) + WORTH + JOINTS + SHOWN + load("axiom") + without(-1)

    def test_the_list_is_the_same_afterwards(self):
        calls = self.whole()
        before = list(calls)
        answers(calls)
        self.assertEqual(calls, before)

    def test_the_same_list_is_answered_alike(self):
        calls = self.whole()
        self.assertEqual(answers(calls), answers(calls))
        self.assertIsNot(answers(calls), answers(calls))

    def test_a_changed_answer_changes_no_other(self):
        first = answers(self.whole())
        kept = list(first)
        first.clear()
        self.assertEqual(answers(self.whole()), kept)

    def test_the_object_is_new_each_time(self):
        answers(load(WORKED))
        self.assertEqual(answers([3]), [1, -1])

    def test_whole_numbers_in_a_list(self):
        told = answers(self.whole())
        self.assertIs(type(told), list)
        for number in told:
            self.assertIs(type(number), int)


class CallsOfTheNextStage(unittest.TestCase):
    # They are not answered by a guess while they are not there.
    def test_with_a_text(self):
        for call in (try_out(0), change(0), UNDO, compare(0, 0), same(0)):
            with self.assertRaises(NotImplementedError):
                ask(load(WORKED), call)
