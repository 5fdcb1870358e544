"""try and change: how items stand, goals that come and go, refusals, and what is seen of a change."""

import unittest

from tests.helper import (
    JOINTS, SHOWN, UNDO, WORKED, WORTH, ask, ask_of, change, compare, load, same, shown_text, try_out, without,
)

# a is x > ~ y; b has no formula.
TEXT = "axiom k : x > y > x ; axiom n : ~ x ; row a : k, n ; row b : n, k ; goal p > ~ q ; goal p > q ; goal ~ p ;"
WHOLE = [SHOWN, WORTH, JOINTS] + [without(item) for item in range(5)] + [compare(2, 3), same(2)]


def tried(text, axiom, formula):
    told = ask_of(text, try_out(axiom, formula + " ;"), change(axiom, formula + " ;"))
    if told[0] != told[1]:
        raise AssertionError(f"try tells {told[0]}, change {told[1]}")
    return told[0]


def stands(text, axiom, formula, items):
    return tried(text, axiom, formula)[1:1 + items]


class HowItemsStand(unittest.TestCase):
    def test_alike(self):
        self.assertEqual(tried(TEXT, 0, "p > q > p"), [0, 0, 0, 0, 6, 1, 0, 1, 1, 0, 1])
        self.assertEqual(tried(TEXT, 0, "( q ) > ( p > ( q ) )"), [0, 0, 0, 0, 6, 1, 0, 1, 1, 0, 1])

    def test_more_general(self):
        self.assertEqual(tried(TEXT, 1, "x"), [3, 0, 1, 1, 5, 1, 0, 1, 1, 1, 1])

    def test_less_general(self):
        self.assertEqual(tried(TEXT, 1, "~ ~ x"), [2, 0, 2, 2, 6, 1, 0, 1, 0, 0, 0])

    def test_another_and_without_one(self):
        self.assertEqual(tried(TEXT, 0, "~ x"), [2, 3, 0, 4, 6, 1, 0, 1, 0, 0, 1])

    def test_with_one_where_it_had_none(self):
        self.assertEqual(tried(TEXT, 1, "( x > y > x ) > z"), [3, 0, 3, 3, 5, 1, 0, 1, 1, 1, 1])

    def test_without_one_as_before(self):
        text = "axiom n : ~ x ; row a : n, n ; row b : a, n ;"
        self.assertEqual(tried(text, 0, "~ ~ x"), [1, 2, 6, 6])
        self.assertEqual(tried(text, 0, "~ y"), [0, 0, 6, 6])
        self.assertEqual(tried(text, 0, "x"), [3, 1, 5, 5])

    def test_each_way_of_one_axiom(self):
        for before, after, how in (
            ("x", "y", 0),
            ("x > y", "y > x", 0),
            ("x > x", "y > y", 0),
            ("x > x", "x > y", 1),
            ("~ x", "x", 1),
            ("x > ~ y > x", "x > y > x", 1),
            ("( x > y ) > x", "x > y", 1),
            ("x > y", "x > x", 2),
            ("x", "~ x", 2),
            ("x > y > z", "x > y > x", 2),
            ("x > y", "( x > y ) > ~ z", 2),
            ("x > y", "~ x", 3),
            ("x > y > x", "x > y > y", 3),
            ("x > x > y", "x > y > y", 3),
            ("~ x > y", "x > ~ y", 3),
            ("x > x", "~ x > y", 3),
        ):
            with self.subTest(before + " ; " + after):
                self.assertEqual(stands(f"axiom a : {before} ;", 0, after, 1), [how])

    def test_both_ways_round(self):
        turned = {0: 0, 1: 2, 2: 1, 3: 3, 4: 5, 5: 4, 6: 6}
        formulas = ["x > y > x", "~ x", "x", "x > x", "~ ~ x", "( x > y > x ) > z", "( x > y ) > x"]
        seen = set()
        for before in formulas:
            for after in formulas:
                text = TEXT.replace("n : ~ x", f"n : {before}")
                there = stands(text, 1, after, 4)
                back = stands(TEXT.replace("n : ~ x", f"n : {after}"), 1, before, 4)
                self.assertEqual(back, [turned[how] for how in there])
                seen |= set(there)
        self.assertEqual(seen, set(range(7)))

    def test_only_what_hangs_on_the_axiom(self):
        text = "axiom k : x > y > x ; axiom n : ~ x ; row a : k, k ; row b : k, n ; row c : b, a ; row d : n, n ;"
        self.assertEqual(stands(text, 1, "~ ~ x", 6), [0, 2, 0, 2, 2, 6])
        self.assertEqual(stands(text, 0, "~ x", 6), [3, 0, 4, 4, 4, 6])

    def test_an_axiom_that_is_alike_to_another_one(self):
        text = "axiom k : x > y > x ; axiom j : x > y > x ; row a : k, j ; row b : j, j ;"
        self.assertEqual(stands(text, 0, "x > x", 4), [3, 0, 3, 0])

    def test_a_row_that_hangs_on_it_may_stay(self):
        text = "axiom k : x > y > x ; axiom c : x > ~ y ; row a : c, k ;"
        self.assertEqual(tried(text, 0, "~ ~ x"), [1, 3, 0, 0])

    def test_sixty_signs(self):
        chain = " > ".join(f"n{number}" for number in range(15))
        text = f"axiom d : x > ~ ( x > x ) ; axiom c : {chain} ; row r : d, c ; "
        self.assertEqual(tried(text, 1, f"~ ( {chain} )"), [2, 0, 3, 4])
        self.assertEqual(tried(text, 0, "x > ~ ~ ( x > x )"), [2, 3, 0, 4])
        self.assertEqual(tried(text.replace("~ (", "~ ~ ("), 0, "x > ~ ( x > x )"), [2, 3, 0, 5])

    def test_greatest_text(self):
        text = "".join(f"axiom a{number} : x > x ; " for number in range(6)) + "row r0 : a0, a5 ; "
        text += "".join(f"row r{number} : r{number - 1}, a5 ; " for number in range(1, 24)) + "goal p > p ; " * 4
        self.assertEqual(tried(text, 5, "~ x"), [25] + [0] * 5 + [3] * 2 + [4] * 23 + [1] * 8)
        self.assertEqual(tried(text, 0, "~ x"), [25, 3] + [0] * 5 + [4] * 24 + [1] * 8)


class Goals(unittest.TestCase):
    def test_no_goals(self):
        self.assertEqual(tried("axiom a : x ;", 0, "~ x"), [1, 2])

    def test_they_come_and_go(self):
        text = "axiom a : ~ x ; goal ~ p ; goal p > q ; goal ~ ~ p ; goal p ;"
        self.assertEqual(tried(text, 0, "x > y"), [1, 3, 1, 0, 1, 0, 0, 1, 0, 0])
        self.assertEqual(tried(text, 0, "~ ~ x"), [1, 2, 1, 0, 1, 0, 0, 0, 1, 0])
        self.assertEqual(tried(text, 0, "x"), [1, 1, 1, 0, 1, 0, 1, 1, 1, 1])

    def test_another_item_still_proves_it(self):
        text = "axiom a : ~ x ; axiom b : ~ x ; goal ~ p ;"
        self.assertEqual(tried(text, 0, "x > x"), [1, 3, 0, 1, 1])

    def test_proved_once_or_twice_is_told_as_one(self):
        text = "axiom a : ~ x ; axiom b : ~ x ; axiom c : x > y ; goal ~ p ; goal p > p ;"
        self.assertEqual(tried(text, 2, "x"), [1, 0, 0, 1, 1, 1, 1, 1])

    def test_now_is_as_the_text_is_after_changes(self):
        text = "axiom a : ~ x ; goal ~ p ; goal p > p ;"
        told = ask_of(text, change(0, "x > x ;"), try_out(0, "~ x ;"), change(0, "x ;"), try_out(0, "x ;"))
        self.assertEqual(told, [[1, 3, 1, 0, 0, 1], [1, 3, 0, 1, 1, 0], [1, 1, 0, 1, 1, 1], [0, 0, 1, 1, 1, 1]])


class TryChangesNothing(unittest.TestCase):
    def test_every_call_behind_it(self):
        first = ask_of(TEXT, *WHOLE, UNDO)
        for call in (try_out(1, "x ;"), try_out(0, "~ x ;"), try_out(0, "x > y > x ;"), try_out(2), try_out(0, "x")):
            self.assertEqual(ask_of(TEXT, call, *WHOLE, UNDO)[1:], first)
        self.assertEqual(first[-1], [-3])

    def test_changes_are_still_held(self):
        told = ask_of(TEXT, change(1, "x ;"), try_out(1, "~ x ;"), UNDO, *WHOLE, UNDO)
        self.assertEqual(told[2:], [[3]] + ask_of(TEXT, *WHOLE) + [[-3]])

    def test_asked_twice(self):
        told = ask_of(TEXT, try_out(1, "x ;"), try_out(1, "x ;"), change(1, "x ;"), try_out(1, "x ;"))
        self.assertEqual(told[0], told[1])
        self.assertEqual(told[0], told[2])
        self.assertEqual(told[3], [0, 0, 0, 0, 0, 1, 1, 1, 1, 1, 1])


class ChangeIsSeen(unittest.TestCase):
    def test_every_call_behind_it(self):
        for axiom, name, old in ((0, "k", "x > y > x"), (1, "n", "~ x")):
            for formula in ("x", "~ x", "~ ~ x", "x > y > x", "x > y > y", "( x > y > x ) > z"):
                fresh = TEXT.replace(f"{name} : {old} ;", f"{name} : {formula} ;")
                told = ask_of(TEXT, change(axiom, formula + " ;"), *WHOLE, try_out(0, "x ;"))[1:]
                self.assertEqual(told, ask_of(fresh, *WHOLE, try_out(0, "x ;")))

    def test_shown_tells_the_one_form(self):
        told = ask_of(TEXT, change(0, "#\n(b)>(~((a>b)));# "), SHOWN)
        self.assertEqual(bytes(told[1][1:]).decode(),
                         shown_text(TEXT).replace("k : x0 > x1 > x0 ;", "k : x0 > ~ ( x1 > x0 ) ;"))
        self.assertEqual(told[1][0], len(told[1]) - 1)

    def test_one_change_upon_another(self):
        told = ask_of(TEXT, change(0, "~ x ;"), change(1, "x ;"), SHOWN, change(0, "x > y > x ;"), SHOWN, WORTH)
        self.assertEqual(told[0], [2, 3, 0, 4, 6, 1, 0, 1, 0, 0, 1])
        self.assertEqual(told[1], [2, 0, 1, 6, 5, 0, 0, 1, 1, 1, 1])
        self.assertEqual(told[3], [2, 3, 0, 5, 0, 1, 1, 1, 1, 1, 1])
        self.assertIn(b"axiom k : ~ x0 ;\naxiom n : x0 ;\n", bytes(told[2][1:]))
        self.assertIn(b"axiom k : x0 > x1 > x0 ;\naxiom n : x0 ;\n", bytes(told[4][1:]))
        self.assertEqual(told[5], [3, 0, 3, 0, 0])

    def test_compare_and_same(self):
        text = "axiom k : x > y > x ; axiom n : ~ x ; row a : n, k ; row b : k, n ; row c : k, n ; row d : n, n ;"
        told = ask_of(text, compare(2, 5), compare(2, 3), change(1, "( x > y > x ) > ~ z ;"), compare(2, 5),
                      compare(2, 3), compare(3, 4), same(4))
        self.assertEqual(told[:2], [[0, 1, 0, 0], [0, 0, 1, 1]])
        self.assertEqual(told[2], [4, 0, 3, 5, 3, 3, 6])
        self.assertEqual(told[3:], [[0, 0, 1, 1], [0, 0, 1, 1], [1, 1, 0, 0], [2, 3, 4]])

    def test_a_load_behind_it(self):
        told = ask(load(TEXT), change(0, "~ x ;"), load(TEXT), *WHOLE)
        self.assertEqual(told[3:], ask_of(TEXT, *WHOLE))


class NoSuchAxiom(unittest.TestCase):
    def test_edges(self):
        for axiom in (-1, -2, 2, 3, 4, 6, 7, 30, 10 ** 18, -10 ** 18):
            for formula in ("x ;", "", "x", "@", [255] * 8192, "x ; x", "~" * 40 + "x ;"):
                first = ask_of(WORKED, SHOWN)
                self.assertEqual(ask_of(WORKED, try_out(axiom, formula), change(axiom, formula), UNDO, SHOWN),
                                 [[-2], [-2], [-3]] + first)

    def test_first_and_last_axiom(self):
        for count in (1, 3, 6):
            text = "".join(f"axiom a{number} : ~ x ; " for number in range(count)) + "row r : a0, a0 ;"
            for axiom in range(-2, count + 3):
                expected = [-2]
                if 0 <= axiom < count:
                    expected = [1] + [0] * count + [6]
                    expected[1 + axiom] = 2
                self.assertEqual(ask_of(text, try_out(axiom, "~ ~ x ;"), change(axiom, "~ ~ x ;")), [expected] * 2)
