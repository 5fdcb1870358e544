"""undo: what it brings back, what it answers, and how many texts are held (promise 5)."""

import unittest

from proofworth.items import Holder

from tests.helper import JOINTS, SHOWN, UNDO, WORTH, ask, ask_of, change, codes, compare, load, same, try_out, without

TEXT = "axiom k : x > y > x ; axiom n : ~ x ; row a : k, n ; row b : n, k ; goal p > ~ q ; goal p > q ; goal ~ p ;"
WHOLE = [SHOWN, WORTH, JOINTS] + [without(item) for item in range(5)] + [compare(2, 3), same(2), try_out(0, "x ;")]


# Formulas that are all unlike: the number tells which change was made.
def denied(number):
    return "~ " * number + "x ;"


class Undo(unittest.TestCase):
    def test_without_changes(self):
        self.assertEqual(ask_of(TEXT, UNDO, UNDO, *WHOLE), [[-3], [-3]] + ask_of(TEXT, *WHOLE))

    def test_after_one_change(self):
        for axiom in (0, 1):
            for formula in ("x", "~ x", "~ ~ x", "x > y > x", "( x > y > x ) > z"):
                told = ask_of(TEXT, change(axiom, formula + " ;"), UNDO, *WHOLE, UNDO)
                self.assertEqual(told[1], told[0][:1])
                self.assertEqual(told[2:], ask_of(TEXT, *WHOLE) + [[-3]])

    def test_what_it_answers(self):
        self.assertEqual(ask_of(TEXT, change(1, "x ;"), UNDO)[1], [3])
        self.assertEqual(ask_of(TEXT, change(0, "~ x ;"), UNDO)[1], [2])
        self.assertEqual(ask_of(TEXT, change(1, "~ y ;"), UNDO)[1], [0])
        self.assertEqual(ask_of(TEXT, change(0, "~ x ;"), change(1, "x ;"), UNDO, UNDO)[2:], [[2], [2]])

    def test_after_several(self):
        first = ask_of(TEXT, *WHOLE)
        second = ask_of(TEXT, change(1, "x ;"), *WHOLE)[1:]
        third = ask_of(TEXT, change(1, "x ;"), change(0, "~ x ;"), *WHOLE)[2:]
        told = ask_of(TEXT, change(1, "x ;"), change(0, "~ x ;"), change(1, "x > x ;"), UNDO, *WHOLE)[3:]
        self.assertEqual(told[1:], third)
        told = ask_of(TEXT, change(1, "x ;"), change(0, "~ x ;"), change(1, "x > x ;"), UNDO, UNDO, *WHOLE)[4:]
        self.assertEqual(told[1:], second)
        told = ask_of(TEXT, change(1, "x ;"), change(0, "~ x ;"), change(1, "x > x ;"), UNDO, UNDO, UNDO, *WHOLE)[5:]
        self.assertEqual(told[1:], first)

    def test_an_undo_is_no_change(self):
        told = ask_of(TEXT, change(1, "x ;"), change(1, "x > x ;"), UNDO, UNDO, UNDO, SHOWN)
        self.assertEqual(told[4:], [[-3]] + ask_of(TEXT, SHOWN))

    def test_changes_and_undos_in_turn(self):
        told = ask_of(TEXT, change(1, "x ;"), UNDO, change(0, "~ x ;"), change(1, "x > x ;"), UNDO, SHOWN, UNDO, SHOWN,
                      UNDO)
        self.assertEqual(told[5], ask_of(TEXT, change(0, "~ x ;"), SHOWN)[1])
        self.assertEqual(told[7], ask_of(TEXT, SHOWN)[0])
        self.assertEqual(told[8], [-3])

    def test_a_change_to_an_alike_formula_is_one(self):
        told = ask_of(TEXT, change(0, "~ x ;"), change(0, "~ y ;"), UNDO, SHOWN, UNDO, SHOWN, UNDO)
        self.assertEqual(told[2], [0])
        self.assertEqual(told[3], ask_of(TEXT, change(0, "~ x ;"), SHOWN)[1])
        self.assertEqual(told[4:], [[2]] + ask_of(TEXT, SHOWN) + [[-3]])


class WhatIsNoChange(unittest.TestCase):
    def test_refused_or_with_a_fault(self):
        for call in (change(2), change(-1), change(10 ** 18), change(0, ""), change(0, "x"), change(0, "@"),
                     change(0, "~" * 40 + "x ;"), change(0, "(" * 41), change(0, " " * 4097), change(0, "x ; x"),
                     try_out(0, "~ x ;"), try_out(5), try_out(1, "")):
            self.assertEqual(ask_of(TEXT, call, UNDO, *WHOLE)[1:], [[-3]] + ask_of(TEXT, *WHOLE))
            told = ask_of(TEXT, change(0, "~ x ;"), call, SHOWN, UNDO, SHOWN, UNDO)
            self.assertEqual(told[2], ask_of(TEXT, change(0, "~ x ;"), SHOWN)[1])
            self.assertEqual(told[3:], [[2]] + ask_of(TEXT, SHOWN) + [[-3]])

    def test_calls_that_look(self):
        for call in WHOLE:
            told = ask_of(TEXT, change(0, "~ x ;"), call, UNDO, SHOWN, UNDO)
            self.assertEqual(told[2:], [[2]] + ask_of(TEXT, SHOWN) + [[-3]])


class Loads(unittest.TestCase):
    def test_a_right_text_is_held_without_changes(self):
        told = ask(load(TEXT), change(0, "~ x ;"), load(TEXT), UNDO, SHOWN)
        self.assertEqual(told[3:], [[-3]] + ask_of(TEXT, SHOWN))
        told = ask(load(TEXT), change(0, "~ x ;"), load("axiom a : x ;"), change(0, "~ x ;"), UNDO, UNDO, SHOWN)
        self.assertEqual(told[4:], [[1], [-3]] + ask_of("axiom a : x ;", SHOWN))

    def test_a_wrong_text_changes_nothing(self):
        told = ask(load(TEXT), change(0, "~ x ;"), load("axiom"), SHOWN, UNDO, SHOWN, UNDO)
        self.assertEqual(told[2], [0, 3, 5])
        self.assertEqual(told[3], ask_of(TEXT, change(0, "~ x ;"), SHOWN)[1])
        self.assertEqual(told[4:], [[2]] + ask_of(TEXT, SHOWN) + [[-3]])


class HowManyAreHeld(unittest.TestCase):
    # A list has at most 40 calls, too few for 21 changes and 21 undos: so the object is asked.
    def after_changes(self, count):
        holder = Holder()
        holder.load(codes("axiom a : x ;"))
        for number in range(1, count + 1):
            holder.change(0, codes(denied(number)))
        return holder

    def form(self, holder):
        return bytes(holder.answer(1, [])[1:]).decode()

    def test_twenty(self):
        for count in (1, 2, 19, 20, 21, 22, 39):
            holder = self.after_changes(count)
            held = min(count, 20)
            for number in range(count - 1, count - held - 1, -1):
                self.assertEqual(holder.undo(), [1])
                self.assertEqual(self.form(holder), f"axiom a : {'~ ' * number}x0 ;\n")
            for turn in range(3):
                self.assertEqual(holder.undo(), [-3])
                self.assertEqual(self.form(holder), f"axiom a : {'~ ' * (count - held)}x0 ;\n")

    def test_after_undos_there_is_room_again(self):
        holder = self.after_changes(22)
        for turn in range(5):
            self.assertEqual(holder.undo(), [1])
        for number in range(30, 36):
            holder.change(0, codes(denied(number)))
        for turn in range(20):
            self.assertEqual(holder.undo(), [1])
        self.assertEqual(holder.undo(), [-3])
        self.assertEqual(self.form(holder), f"axiom a : {'~ ' * 3}x0 ;\n")

    def test_forty_calls(self):
        calls = [load("axiom a : x ;")] + [change(0, denied(number)) for number in range(1, 21)]
        told = ask(*calls, *[UNDO] * 18, SHOWN)
        self.assertEqual(len(told), 40)
        self.assertEqual(told[21:39], [[1]] * 18)
        self.assertEqual(bytes(told[39][1:]), b"axiom a : ~ ~ x0 ;\n")

    def test_eighteen_changes_and_every_undo(self):
        calls = [load("axiom a : x ;")] + [change(0, denied(number)) for number in range(1, 19)]
        told = ask(*calls, *[UNDO] * 20, SHOWN)
        self.assertEqual(len(told), 40)
        self.assertEqual(told[19:39], [[1]] * 18 + [[-3]] * 2)
        self.assertEqual(bytes(told[39][1:]), b"axiom a : x0 ;\n")
