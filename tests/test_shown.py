"""shown: the one form."""

import random
import unittest

from tests.helper import SHOWN, ask, load, shown_text


def form(formula):
    text = shown_text(f"axiom a : {formula} ; goal {formula} ;")
    lines = text.split("\n")
    if lines[0][len("axiom a : "):] != lines[1][len("goal "):] or lines[2:] != [""]:
        raise AssertionError(text)
    return lines[1][len("goal "):-len(" ;")]


class OneForm(unittest.TestCase):
    def test_brackets(self):
        for told, shown in (
            ("x", "x0"),
            ("( x )", "x0"),
            ("( ( ( x ) ) )", "x0"),
            ("~x", "~ x0"),
            ("~(x)", "~ x0"),
            ("~~x", "~ ~ x0"),
            ("~(~(x))", "~ ~ x0"),
            ("x>y", "x0 > x1"),
            ("(x>y)", "x0 > x1"),
            ("(x)>(y)", "x0 > x1"),
            ("x>y>z", "x0 > x1 > x2"),
            ("x>(y>z)", "x0 > x1 > x2"),
            ("(x>y)>z", "( x0 > x1 ) > x2"),
            ("((x>y))>z", "( x0 > x1 ) > x2"),
            ("((x>y)>z)>w", "( ( x0 > x1 ) > x2 ) > x3"),
            ("(x>(y>z))>w", "( x0 > x1 > x2 ) > x3"),
            ("~x>y", "~ x0 > x1"),
            ("(~x)>y", "~ x0 > x1"),
            ("~(x>y)", "~ ( x0 > x1 )"),
            ("~(x>y)>z", "~ ( x0 > x1 ) > x2"),
            ("~((x>y)>z)", "~ ( ( x0 > x1 ) > x2 )"),
            ("~~(x>y)", "~ ~ ( x0 > x1 )"),
            ("x>~y", "x0 > ~ x1"),
            ("x>~(y>x)", "x0 > ~ ( x1 > x0 )"),
            ("(x>~y)>z", "( x0 > ~ x1 ) > x2"),
            ("x>(~y>z)", "x0 > ~ x1 > x2"),
        ):
            with self.subTest(told):
                self.assertEqual(form(told), shown)

    def test_unknowns_are_numbered_as_they_come(self):
        self.assertEqual(form("z > a > z > x1 > a > x0"), "x0 > x1 > x0 > x2 > x1 > x3")
        self.assertEqual(form("( x5 > x5 ) > x4"), "( x0 > x0 ) > x1")

    def test_unknowns_count_within_their_formula_alone(self):
        self.assertEqual(
            shown_text("axiom a : x > y ; axiom b : y > x ; goal y ; goal x > y ;"),
            "axiom a : x0 > x1 ;\naxiom b : x0 > x1 ;\ngoal x0 ;\ngoal x0 > x1 ;\n",
        )

    def test_many_unknowns(self):
        names = [f"n{number}" for number in range(20)]
        self.assertEqual(form(" > ".join(names)), " > ".join(f"x{number}" for number in range(20)))

    def test_rows(self):
        self.assertEqual(
            shown_text("axiom longest0longest1 : x;row b:longest0longest1,longest0longest1;row C9:b,longest0longest1;"),
            "axiom longest0longest1 : x0 ;\nrow b : longest0longest1, longest0longest1 ;\n"
            "row C9 : b, longest0longest1 ;\n",
        )

    def test_longest_one_form(self):
        deep = "( " * 18 + "n0 > n1" + "".join(f" ) > n{number}" for number in range(2, 20))
        names = [f"name{number:012d}" for number in range(30)]
        text = "".join(f"axiom {name}:{deep};" for name in names[:6])
        text += "".join(f"row {name}:{names[0]},{names[0]};" for name in names[6:])
        text += f"goal {deep};" * 4
        told = ask(load(text), SHOWN)
        self.assertEqual(told[0], [1, 6, 24, 4])
        self.assertLess(told[1][0], 4096)
        again = bytes(told[1][1:]).decode()
        self.assertEqual(shown_text(again), again)


class LoadedAgain(unittest.TestCase):
    def random_formula(self, source, signs):
        if signs == 1:
            return source.choice(["p", "q", "r", "x0", "x1"])
        if signs == 2 or source.random() < 0.2:
            part = self.random_formula(source, signs - 1)
            return source.choice([f"~({part})", f"(~ ({part}))"])
        front = source.randrange(1, signs - 1)
        first = self.random_formula(source, front)
        second = self.random_formula(source, signs - 1 - front)
        return source.choice([f"(({first})>({second}))", f"({first}) > ({second})"])

    def test_the_one_form_is_its_own(self):
        source = random.Random(7)
        for turn in range(200):
            formula = self.random_formula(source, source.randrange(1, 9))
            text = shown_text(f"axiom a : {formula} ; row b : a, a ; goal {formula} ;")
            self.assertEqual(shown_text(text), text)
