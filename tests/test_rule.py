"""The rule: what is detached, seen through the calls and against a second way to work it out."""

import random
import unittest

from proofworth.formulas import IMPLIES, formula_form, is_instance
from proofworth.reading import read_formula
from proofworth.rule import detached
from proofworth.texts import read_text
from proofworth.tokens import reader_of

from tests.helper import (
    WORTH, ask_of, codes, flat, nested, plain_detached, proved, put_in, random_formula, random_nested,
)


def told(text):
    return read_formula(reader_of(codes(text + " ;")))


def rule(first, second):
    formula = detached(told(first), told(second))
    return None if formula is None else formula_form(formula)


# A row below proves the goal just if the row r has a formula, whatever that one is: so it is
# seen through the calls, where the axioms by themselves don't prove the goal already.
def has_formula(first, second):
    axioms = f"axiom f : {first} ; axiom g : {second} ; "
    seen = read_text(codes(axioms + "row r : f, g ; ")).formulas[2] is not None
    for part in ("~ ( y > y )", "( y > y ) > ~ y"):
        lines = axioms + f"axiom n : x > {part} ; "
        if proved(lines + f"goal {part} ;") == 0:
            if (proved(lines + f"row r : f, g ; row q : n, r ; goal {part} ;") == 1) != seen:
                raise AssertionError("the calls tell it otherwise")
    return seen


class Detached(unittest.TestCase):
    def test_ordinary(self):
        for first, second, shown in (
            ("x > y > x", "x > x", "x0 > x1 > x1"),
            ("( x > y > z ) > ( x > y ) > x > z", "x > y > x", "( x0 > x1 ) > x0 > x0"),
            ("( x > y ) > x > x", "x > y > x", "x0 > x0"),
            ("( ~ x > ~ y ) > y > x", "~ ~ p > ~ q", "x0 > ~ x1"),
            ("~ x > x", "~ ( p > q )", "x0 > x1"),
            ("x > ~ x", "x > x", "~ ( x0 > x0 )"),
            ("( x > x ) > x", "( p > q ) > ( q > p )", "x0 > x0"),
            ("x > y", "x > y", "x0"),
            ("x > y > z", "~ q", "x0 > x1"),
        ):
            with self.subTest(first + " ; " + second):
                self.assertEqual(rule(first, second), shown)
                self.assertTrue(has_formula(first, second))

    def test_order_counts(self):
        self.assertEqual(rule("~ x > y > x", "~ ~ x"), "x0 > ~ x1")
        self.assertIsNone(rule("~ ~ x", "~ x > y > x"))
        self.assertTrue(has_formula("~ x > y > x", "~ ~ x"))
        self.assertFalse(has_formula("~ ~ x", "~ x > y > x"))

    def test_from_an_unknown_alone(self):
        for second in ("x", "~ x", "x > y", "~ ( x > x )"):
            self.assertEqual(rule("x", second), "x0")
            self.assertTrue(has_formula("x", second))

    def test_an_unknown_alone_proves_everything(self):
        self.assertEqual(proved("axiom a : x > x > x ; goal ~ p ;"), 0)
        self.assertEqual(proved("axiom u : x ; goal ~ p ; goal p > p ; goal p ;"), 3)
        self.assertEqual(proved("axiom a : ~ x > y ; axiom n : ~ z ; row r : a, n ; goal ~ p ; goal p > q ;"), 2)
        told = ask_of("axiom a : ~ x > y ; axiom n : ~ z ; row r : a, n ; row q : r, n ; goal p > q ;", WORTH)
        self.assertEqual(told, [[1, 1, 1, 1, 0]])

    def test_from_a_denied_one(self):
        for first in ("~ x", "~ ( x > y )", "~ ~ ( x > y )"):
            for second in ("x", "~ x", "x > y"):
                self.assertIsNone(rule(first, second))
                self.assertFalse(has_formula(first, second))

    def test_where_nothing_can_become_the_same(self):
        for first, second in (
            ("( x > y ) > x", "~ x"),
            ("~ x > x", "x > y"),
            ("( x > ~ y ) > x", "x > y > x"),
            ("( ~ x > x ) > y", "( p > q ) > p"),
            ("( x > x ) > y", "p > ( ~ q > r ) > p"),
        ):
            with self.subTest(first + " ; " + second):
                self.assertIsNone(rule(first, second))
                self.assertFalse(has_formula(first, second))

    def test_where_an_unknown_would_stand_within_what_is_put_for_it(self):
        for first, second in (
            ("( x > x ) > y", "p > ~ p"),
            ("( x > x ) > y", "p > q > p"),
            ("( x > ~ x ) > y", "p > p"),
            ("( x > y > x ) > z", "( p > q ) > q > p"),
            ("( x > y > ~ x > ~ y ) > z", "p > q > q > p"),
            ("( x > y > z > ~ y > ~ z > ~ x ) > w", "a > b > c > a > b > c"),
        ):
            with self.subTest(first + " ; " + second):
                self.assertIsNone(rule(first, second))
                self.assertFalse(has_formula(first, second))

    def test_the_same_names_are_taken_to_be_unlike(self):
        self.assertEqual(rule("( x > y ) > x", "y > ~ y"), "x0")
        self.assertEqual(rule("x > y", "~ x"), "x0")
        self.assertEqual(rule("( x > ~ y ) > x > y", "~ x > y"), "~ x0 > x1")

    def test_sixty_signs(self):
        chain = " > ".join(f"n{number}" for number in range(15))
        self.assertEqual(len(detached(told("x > ~ ( x > x )"), told(chain))), 60)
        self.assertTrue(has_formula("x > ~ ( x > x )", chain))
        self.assertIsNone(detached(told("x > x > x"), told("~ ( " + chain + " )")))
        self.assertFalse(has_formula("x > x > x", "~ ( " + chain + " )"))
        self.assertIsNone(detached(told("x > ~ ~ ( x > x )"), told(chain)))
        self.assertEqual(len(detached(told("x > x > x"), told(chain))), 59)

    def test_only_what_is_detached_is_counted(self):
        chain = " > ".join(f"n{number}" for number in range(20))
        self.assertEqual(rule("x > y > y", chain), "x0 > x0")
        front = "( x > y > x > y ) > z"
        self.assertEqual(rule(front, "p > q > ~ ~ ~ ~ ~ ~ r > ~ ~ ~ ~ s"), "x0")

    # Each unknown is put twice for the one before, so written out they double with every one.
    def test_what_is_put_in_may_be_very_long(self):
        count = 30
        front = []
        other = []
        for number in range(count):
            front.append((number,))
            other.append((IMPLIES, number, number))
        for number in range(1, count):
            front.append((number - 1,))
            other.append((number,))

        def chained(parts):
            formula = parts[-1]
            for part in reversed(parts[:-1]):
                formula = (IMPLIES,) + part + formula
            return formula

        unknown = (count,)
        self.assertEqual(detached((IMPLIES,) + chained(front) + unknown, chained(other)), (0,))
        self.assertIsNone(detached((IMPLIES,) + chained(front) + (count - 1,), chained(other)))
        self.assertEqual(detached((IMPLIES,) + chained(front) + (0,), chained(other)), (IMPLIES, 0, 0))
        self.assertIsNone(detached((IMPLIES,) + chained(front + [(0,)]) + unknown, chained(other + [(count - 1,)])))


class RowsWithoutFormula(unittest.TestCase):
    def test_what_hangs_on_them_has_none(self):
        text = ("axiom n : ~ x ; axiom k : x > y > x ; row none : n, k ; row one : none, k ; row two : k, none ; "
                "row three : one, two ; row some : k, n ; goal p > ~ q ; goal p > q > r ;")
        formulas = read_text(codes(text)).formulas
        self.assertEqual([formula is None for formula in formulas], [False, False, True, True, True, True, False])
        self.assertEqual(ask_of(text, WORTH), [[1, 1, 1, 0, 0, 0, 0, 1]])

    def test_an_unknown_alone_with_a_row_without_formula(self):
        text = ("axiom i : ( x > x ) > ~ x ; axiom n : ~ x ; axiom u : ~ ( x > x ) > y ; row none : n, n ; "
                "row some : u, n ; row below : some, none ; row other : none, some ; goal ~ p ;")
        self.assertEqual(ask_of(text, [2, 4], WORTH), [[3, 4, 5, 6, 0], [1, 0, 1, 0, 0, 0, 0, 0]])


class Proves(unittest.TestCase):
    def test_goals(self):
        for formula, goal, is_proved in (
            ("x > y > x", "p > q > p", 1),
            ("x > y > x", "p > p > p", 1),
            ("x > y > x", "( p > q ) > r > p > q", 1),
            ("x > y > x", "~ p > ~ q > ~ p", 1),
            ("x > y > x", "p > q > r", 0),
            ("x > y > x", "p > q", 0),
            ("x > y > x", "p > q > p > p", 0),
            ("x > x", "p > q", 0),
            ("x > y", "p > p", 1),
            ("x > y", "p", 0),
            ("~ x", "p", 0),
            ("~ x", "~ ( p > q )", 1),
            ("~ x", "p > q", 0),
            ("x > ~ x", "x > ~ y", 0),
            ("x", "x", 1),
            ("( x > y ) > y > x", "( p > p ) > p > p", 1),
            ("( x > y ) > y > x", "( p > q ) > p > q", 0),
        ):
            with self.subTest(formula + " ; " + goal):
                self.assertEqual(proved(f"axiom a : {formula} ; goal {goal} ;"), is_proved)

    def test_the_goal_is_taken_as_it_stands(self):
        self.assertEqual(proved("axiom a : x > x ; goal x > y ;"), 0)
        self.assertEqual(proved("axiom a : y > x ; goal x > y ;"), 1)


class AgainstASecondWay(unittest.TestCase):
    def test_many_pairs(self):
        source = random.Random(11)
        some = 0
        for turn in range(4000):
            first = random_formula(source, 14)
            second = random_formula(source, 12)
            expected = plain_detached(first, second)
            some += expected is not None
            self.assertEqual(detached(first, second), expected, (first, second))
        self.assertGreater(some, 500)

    def test_chains_of_rows(self):
        source = random.Random(12)
        for turn in range(200):
            known = [random_formula(source, 12) for axiom in range(3)]
            for row in range(24):
                first = source.choice(known)
                second = source.choice(known)
                expected = plain_detached(first, second)
                self.assertEqual(detached(first, second), expected, (first, second))
                if expected is not None:
                    known.append(expected)

    def test_instances(self):
        source = random.Random(13)
        for turn in range(2000):
            general = random_formula(source, 10)
            whole = nested(general, "g")
            for name in sorted(set(f"g{sign}" for sign in general if sign >= 0)):
                whole = put_in(whole, name, random_nested(source, source.randrange(1, 5), ["p", "q"]))
            formula = flat(whole, {})
            self.assertTrue(is_instance(formula, general))
            if not is_instance(general, formula):
                self.assertNotEqual(formula, general)

    def test_two_that_are_instances_of_each_other_are_alike(self):
        source = random.Random(14)
        for turn in range(4000):
            one = random_formula(source, 6)
            other = random_formula(source, 6)
            both = is_instance(one, other) and is_instance(other, one)
            self.assertEqual(both, one == other, (one, other))
