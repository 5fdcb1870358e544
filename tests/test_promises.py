"""The promises 1 to 5 over many texts, those among them that were changed and undone."""

import random
import unittest

from proofworth.texts import read_text

from tests.helper import (
    JOINTS, SHOWN, UNDO, WORTH, ask, ask_of, change, codes, compare, hangs_on, load, random_text, same, try_out,
    without,
)

FORMULAS = ("x", "~ x", "x > x", "x > y", "x > y > x", "~ ~ x", "( x > y > z ) > ( x > y ) > x > z", "x > y > y",
            "( ~ x > ~ y ) > y > x", "( x > y ) > x", "~ x > y", "( x > x ) > ~ y")
# Each is less general than the one before it.
CHAINS = (
    ("x", "x > y", "x > y > x", "x > ( x > y ) > x", "~ x > ( ~ x > x ) > ~ x"),
    ("x", "~ x", "~ ~ x", "~ ~ ( x > y )", "~ ~ ( x > x )"),
    ("x > y", "x > x", "~ x > ~ x", "~ ( x > y ) > ~ ( x > y )"),
    ("( x > y ) > z", "( x > y > z ) > ( x > y ) > w", "( x > y > z ) > ( x > y ) > x > z",
     "( x > x > z ) > ( x > x ) > x > z"),
)


def items_of(count):
    return [without(item) for item in range(count)] + [same(item) for item in range(count)]


def form_of(answer):
    return bytes(answer[1:]).decode("ascii")


# A text by chance, calls that change it and undo some of that, and the text as it is then.
def changed(source):
    text = random_text(source)
    axioms = len(read_text(codes(text)).axioms)
    calls = []
    for turn in range(source.randrange(1, 8)):
        formula = source.choice(FORMULAS) + " ;"
        calls.append(UNDO if source.random() < 0.3 else change(source.randrange(axioms), formula))
    told = ask(load(text), *calls, SHOWN)
    return text, calls, form_of(told[-1])


class Promises1And2(unittest.TestCase):
    def parted(self, answer):
        end = 1 + answer[0]
        return answer[1:end], answer[end + 1:]

    def test_over_changed_texts(self):
        source = random.Random(41)
        losses = 0
        for turn in range(150):
            text, calls, now = changed(source)
            proof = read_text(codes(now))
            count = len(proof.formulas)
            told = ask(load(text), *calls, *[without(item) for item in range(count)])[1 + len(calls):]
            fallen = [self.parted(answer)[0] for answer in told]
            lost = [self.parted(answer)[1] for answer in told]
            for item in range(count):
                for number, row in enumerate(proof.rows, start=len(proof.axioms)):
                    self.assertEqual(number in fallen[item], number == item or set(row) & set(fallen[item]) != set())
                for goal, provers in enumerate(proof.provers):
                    is_lost = len(provers) > 0 and set(provers) <= set(fallen[item])
                    self.assertEqual(goal in lost[item], is_lost)
                for below in hangs_on(proof, item):
                    self.assertLessEqual(set(lost[item]), set(lost[below]))
                losses += len(lost[item])
        self.assertGreater(losses, 100)

    # What a change or an undo leaves is answered as the text that shown tells is.
    def test_as_if_it_had_been_loaded(self):
        source = random.Random(42)
        for turn in range(100):
            text, calls, now = changed(source)
            count = len(read_text(codes(now)).formulas)
            looks = items_of(count) + [WORTH, JOINTS, SHOWN, try_out(0, "x > y > y ;")]
            looks += [compare(source.randrange(count), source.randrange(count)) for pair in range(20)]
            looks = source.sample(looks, min(len(looks), 32))
            told = ask(load(text), *calls, *looks)[1 + len(calls):]
            self.assertEqual(told, ask_of(now, *looks))


class Promise3(unittest.TestCase):
    def cases(self, source):
        for turn in range(300):
            text = random_text(source)
            proof = read_text(codes(text))
            axiom = source.randrange(len(proof.axioms))
            chain = source.choice(CHAINS)
            low = source.randrange(1, len(chain))
            yield text, proof, axiom, chain[source.randrange(low)] + " ;", chain[low] + " ;"

    def told(self, text, proof, axiom, before, after):
        answer = ask_of(text, change(axiom, before), try_out(axiom, after))[1]
        items = len(proof.formulas)
        goals = len(proof.goals)
        self.assertEqual(len(answer), 1 + items + 2 * goals)
        stands = answer[1:1 + items]
        self.assertEqual(answer[0], len([how for how in stands if how not in (0, 6)]))
        return stands, answer[1 + items:1 + items + goals], answer[1 + items + goals:]

    def test_less_general(self):
        seen = set()
        fewer = 0
        for text, proof, axiom, general, narrow in self.cases(random.Random(43)):
            stands, now, then = self.told(text, proof, axiom, general, narrow)
            self.assertEqual(stands[axiom], 2)
            self.assertLessEqual(set(stands), {0, 2, 4, 6})
            self.assertTrue(all(after <= before for before, after in zip(now, then)))
            seen |= set(stands)
            fewer += then != now
        self.assertEqual(seen, {0, 2, 4, 6})
        self.assertGreater(fewer, 20)

    def test_more_general(self):
        seen = set()
        more = 0
        for text, proof, axiom, general, narrow in self.cases(random.Random(44)):
            stands, now, then = self.told(text, proof, axiom, narrow, general)
            self.assertEqual(stands[axiom], 1)
            self.assertLessEqual(set(stands), {0, 1, 5, 6})
            self.assertTrue(all(after >= before for before, after in zip(now, then)))
            seen |= set(stands)
            more += then != now
        self.assertEqual(seen, {0, 1, 5, 6})
        self.assertGreater(more, 20)

    def test_what_does_not_hang_on_it_stays(self):
        source = random.Random(45)
        stayed = 0
        for turn in range(300):
            text = random_text(source)
            proof = read_text(codes(text))
            axiom = source.randrange(len(proof.axioms))
            stands, now, then = self.told(text, proof, axiom, source.choice(FORMULAS) + " ;",
                                          source.choice(FORMULAS) + " ;")
            for item, how in enumerate(stands):
                if axiom not in hangs_on(proof, item):
                    stayed += 1
                    self.assertIn(how, (0, 6))
                    self.assertEqual(how == 6, proof.formulas[item] is None)
        self.assertGreater(stayed, 300)


class Promise4(unittest.TestCase):
    # A text in which every row stands twice, and rows are told by either one.
    def doubled(self, source):
        axioms = source.randrange(1, 4)
        text = "".join(f"axiom a{number} : {source.choice(FORMULAS)} ; " for number in range(axioms))
        pairs = [(f"a{number}", f"a{number}") for number in range(axioms)]
        for number in range(12):
            first, second = source.choice(pairs), source.choice(pairs)
            text += f"row r{number} : {source.choice(first)}, {source.choice(second)} ; "
            text += f"row s{number} : {source.choice(first)}, {source.choice(second)} ; "
            pairs.append((f"r{number}", f"s{number}"))
        return text, axioms

    def test_formulas_alike(self):
        source = random.Random(46)
        for turn in range(100):
            text, axioms = self.doubled(source)
            calls = [change(source.randrange(axioms), source.choice(FORMULAS) + " ;"), UNDO][:turn % 3]
            told = ask_of(text, *calls, SHOWN, try_out(0, "x > x ;"), *[same(item) for item in range(axioms + 24)])
            formulas = read_text(codes(form_of(told[len(calls)]))).formulas
            stands = told[len(calls) + 1][1:]
            for item, answer in enumerate(told[len(calls) + 2:]):
                self.assertEqual(answer[0], len(answer) - 1)
                self.assertIn(item, answer[1:])
                if item >= axioms:
                    self.assertIn(axioms + ((item - axioms) ^ 1), answer[1:])
                for other in answer[1:]:
                    self.assertEqual(formulas[item], formulas[other])
                    self.assertEqual(stands[item], stands[other])
                    compared = ask_of(text, *calls, compare(item, other))[-1]
                    self.assertEqual([compared[0]] + compared[2:], [1, 0, 0])

    def test_same_is_what_compare_tells(self):
        source = random.Random(47)
        for turn in range(40):
            text = random_text(source)
            count = len(read_text(codes(text)).formulas)
            for item in range(count):
                told = ask_of(text, same(item), *[compare(item, other) for other in range(count)])
                self.assertEqual(told[0][1:], [other for other in range(count) if told[1 + other][0] == 1])


class Promise5(unittest.TestCase):
    def test_every_change_is_undone(self):
        source = random.Random(48)
        for turn in range(60):
            text = random_text(source)
            proof = read_text(codes(text))
            count = source.randrange(1, 18)
            changes = [change(source.randrange(len(proof.axioms)), source.choice(FORMULAS) + " ;")
                       for number in range(count)]
            looks = [SHOWN, WORTH, JOINTS]
            told = ask_of(text, *changes, *[UNDO] * count, UNDO, *looks)
            self.assertEqual(told[count:2 * count], [answer[:1] for answer in reversed(told[:count])])
            self.assertEqual(told[2 * count:], [[-3]] + ask_of(text, *looks))

    def test_each_step_back(self):
        source = random.Random(49)
        for turn in range(40):
            text = random_text(source)
            proof = read_text(codes(text))
            changes = [change(source.randrange(len(proof.axioms)), source.choice(FORMULAS) + " ;")
                       for number in range(10)]
            looks = [SHOWN, WORTH, JOINTS] + items_of(len(proof.formulas))[:10]
            for back in range(11):
                told = ask_of(text, *changes, *[UNDO] * back, *looks)[10 + back:]
                self.assertEqual(told, ask_of(text, *changes[:10 - back], *looks)[10 - back:])
