"""Whole lists of calls by chance, against a second way to answer every call, written from the document's words."""

import random
import re
import unittest

from proofworth.items import answers

from tests.helper import (
    JOINTS, SHOWN, UNDO, WORTH, ask, change, compare, flat, load, nested, plain_detached, random_nested, same, try_out,
    without,
)

SHAPES = ("x > y > x", "( x > y > z ) > ( x > y ) > x > z", "( ~ x > ~ y ) > y > x", "~ x", "x > x", "x", "~ ~ x > x",
          "x > ~ ~ x", "( x > y ) > x", "( x > y ) > ( y > z ) > x > z", "x > y > y", "~ x > x > y", "p > q")
WRONG = (
    ("", 3, 0), ("x", 3, 1), (" @", 2, 1), ("x ; y ;", 3, 4), ("x > ;", 3, 4), ("~" * 40 + "x ;", 9, 0),
    ("(" * 41 + "x ;", 10, 40), (" " * 4097, 1, 4096), ("row ;", 3, 0), ("( x ;", 3, 4), ("x ; 01", 2, 4),
)


def parsed(text):
    words = re.findall(r"\w+|[()>~]", text)

    def part():
        word = words.pop(0)
        if word == "~":
            return ("~", part())
        if word == "(":
            inner = whole()
            words.pop(0)
            return inner
        return word

    def whole():
        first = part()
        if words and words[0] == ">":
            words.pop(0)
            return (">", first, whole())
        return first

    return flat(whole(), {})


def matches(general, formula, put):
    if isinstance(general, str):
        return put.setdefault(general, formula) == formula
    if isinstance(formula, str) or formula[0] != general[0]:
        return False
    return all([matches(inner, other, put) for inner, other in zip(general[1:], formula[1:])])


def is_one(formula, general):
    return matches(nested(general, "g"), nested(formula, "f"), {})


def written(formula):
    if isinstance(formula, str):
        return formula
    if formula[0] == "~":
        inner = written(formula[1])
        return f"~ ( {inner} )" if formula[1][0] == ">" else f"~ {inner}"
    first = written(formula[1])
    first = f"( {first} )" if formula[1][0] == ">" else first
    return f"{first} > {written(formula[2])}"


class Second:
    def __init__(self, axioms, rows, goals):
        self.axioms = axioms
        self.rows = rows
        self.goals = goals
        self.formulas = list(axioms)
        for first, second in rows:
            both = (self.formulas[first], self.formulas[second])
            self.formulas.append(None if None in both else plain_detached(*both))
        self.count = len(self.formulas)
        self.hang = [{item} for item in range(len(axioms))]
        for number, (first, second) in enumerate(rows, start=len(axioms)):
            self.hang.append({number} | self.hang[first] | self.hang[second])

    def provers(self, goal):
        return {item for item in range(self.count)
                if self.formulas[item] is not None and is_one(goal, self.formulas[item])}

    def proved(self):
        return [int(len(self.provers(goal)) > 0) for goal in self.goals]

    def without(self, item):
        falls = [other for other in range(self.count) if item in self.hang[other]]
        lost = [number for number, goal in enumerate(self.goals)
                if self.provers(goal) and self.provers(goal) <= set(falls)]
        return falls, lost

    def joints(self):
        places = [item for row in self.rows for item in row]
        firsts = [min(self.provers(goal)) for goal in self.goals if self.provers(goal)]
        rows = [row for row in range(len(self.axioms), self.count) if places.count(row) > 1 or row in firsts]
        return [len(rows)] + [number for row in rows for number in (row, places.count(row))]

    def is_same(self, first, second):
        if first == second:
            return True
        rows = [item - len(self.axioms) for item in (first, second)]
        if min(rows) < 0:
            return False
        pairs = zip(self.rows[rows[0]], self.rows[rows[1]])
        return all([self.is_same(one, other) for one, other in pairs])

    def inside(self, item):
        return {self.formulas[row] for row in self.hang[item] if row >= len(self.axioms)}

    def compare(self, first, second):
        one, other = self.inside(first), self.inside(second)
        return [int(self.is_same(first, second)), len(one & other), len(one - other), len(other - one)]

    def shown(self):
        lines = [f"axiom a{number} : {written(nested(formula, 'x'))} ;\n" for number, formula in enumerate(self.axioms)]
        name = [f"a{number}" for number in range(len(self.axioms))] + [f"r{number}" for number in range(24)]
        lines += [f"row r{number} : {name[one]}, {name[other]} ;\n" for number, (one, other) in enumerate(self.rows)]
        lines += [f"goal {written(nested(goal, 'x'))} ;\n" for goal in self.goals]
        return list("".join(lines).encode())


def stand(old, new):
    if old is None or new is None:
        return {(True, True): 6, (True, False): 5, (False, True): 4}[(old is None, new is None)]
    return {(True, True): 0, (True, False): 1, (False, True): 2, (False, False): 3}[(is_one(old, new), is_one(new, old))]


def stands(before, after):
    hows = [stand(old, new) for old, new in zip(before.formulas, after.formulas)]
    return len([how for how in hows if how in (1, 2, 3, 4, 5)]), hows


# One list of calls by chance, made along with what the second way answers.
class Session:
    def __init__(self, source):
        self.source = source
        self.now = None
        self.before = []
        self.calls = []
        self.expected = []
        self.stood = []
        self.add_load()

    def add(self, call, answer):
        self.calls.append(call)
        self.expected.append(answer)

    def formula_text(self):
        if self.source.random() < 0.6:
            return self.source.choice(SHAPES)
        return written(random_nested(self.source, self.source.randrange(1, 10), "abc"))

    def add_load(self):
        source = self.source
        axioms = [self.formula_text() for number in range(source.randrange(1, 7))]
        goals = [self.formula_text() for number in range(source.randrange(0, 5))]
        rows = []
        for number in range(source.choice([0, 3, 6, 12, 24])):
            rows.append((source.randrange(len(axioms) + number), source.randrange(len(axioms) + number)))
        name = [f"a{number}" for number in range(len(axioms))] + [f"r{number}" for number in range(24)]
        text = "".join(f"axiom a{number} : {formula} ; " for number, formula in enumerate(axioms))
        text += "".join(f"row r{number}:{name[one]},{name[other]};\n" for number, (one, other) in enumerate(rows))
        text += "".join(f"goal {goal} ; # one\n" for goal in goals)
        self.now = Second([parsed(formula) for formula in axioms], rows, [parsed(goal) for goal in goals])
        self.before = []
        self.add(load(text), [1, len(axioms), len(rows), len(goals)])

    def item(self):
        return self.source.choice([-1, self.now.count, 10 ** 18] + list(range(self.now.count)) * 3)

    def add_look(self):
        now, item, other = self.now, self.item(), self.item()
        falls, lost = now.without(item)
        trees = [number for number in range(now.count) if 0 <= item < now.count and now.is_same(number, item)]
        is_item, both = 0 <= item < now.count, 0 <= item < now.count and 0 <= other < now.count
        looks = [
            (SHOWN, [len(now.shown())] + now.shown()),
            (without(item), [len(falls)] + falls + [len(lost)] + lost if is_item else [-2]),
            (WORTH, [sum(now.proved())] + [len(now.without(number)[1]) for number in range(now.count)]),
            (JOINTS, now.joints()),
            (compare(item, other), now.compare(item, other) if both else [-2]),
            (same(item), [len(trees)] + trees if is_item else [-2]),
        ]
        self.add(*self.source.choice(looks))

    def add_change(self, is_try):
        call = try_out if is_try else change
        axiom = self.source.choice([-1, len(self.now.axioms)] + list(range(len(self.now.axioms))) * 5)
        wrong = self.source.choice(WRONG) if self.source.random() < 0.15 else None
        text = wrong[0] if wrong else self.formula_text() + " ;"
        if not 0 <= axiom < len(self.now.axioms):
            return self.add(call(axiom, text), [-2])
        if wrong:
            return self.add(call(axiom, text), [0, wrong[1], wrong[2]])
        axioms = list(self.now.axioms)
        axioms[axiom] = parsed(text[:-2])
        after = Second(axioms, self.now.rows, self.now.goals)
        count, hows = stands(self.now, after)
        self.stood += hows
        self.add(call(axiom, text), [count] + hows + self.now.proved() + after.proved())
        if not is_try:
            self.before = (self.before + [self.now])[-20:]
            self.now = after

    def add_undo(self):
        if not self.before:
            return self.add(UNDO, [-3])
        after = self.before.pop()
        self.add(UNDO, [stands(self.now, after)[0]])
        self.now = after

    def add_any(self):
        kind = self.source.random()
        if kind < 0.35:
            self.add_look()
        elif kind < 0.5:
            self.add_change(True)
        elif kind < 0.75:
            self.add_change(False)
        elif kind < 0.95:
            self.add_undo()
        elif kind < 0.97:
            self.add(load("axiom"), [0, 3, 5])
        else:
            self.add_load()


class Sessions(unittest.TestCase):
    def test_many(self):
        source = random.Random(31)
        seen = {how: 0 for how in range(7)}
        for turn in range(120):
            session = Session(source)
            while len(session.calls) < 40:
                session.add_any()
            if sum(len(call) for call in session.calls) > 17000:
                continue
            whole = [number for call in session.calls for number in call]
            kept = list(whole)
            told = ask(*session.calls)
            for call, answer, expected in zip(session.calls, told, session.expected):
                self.assertEqual(answer, expected, (turn, call))
            self.assertEqual(answers(whole), answers(whole))
            self.assertEqual(whole, kept)
            for how in session.stood:
                seen[how] += 1
        self.assertGreater(min(seen.values()), 100, seen)
