"""without, worth, joints: promises 1 and 2."""

import random
import unittest

from proofworth.formulas import is_instance
from proofworth.texts import read_text

from tests.helper import JOINTS, WORTH, ask, ask_of, codes, hangs_on, load, random_text, without

K = "axiom k : x > y > x ; "
N = "axiom n : ~ x ; "


class Without(unittest.TestCase):
    def test_axioms_alone(self):
        self.assertEqual(ask_of(K + N, without(0), without(1)), [[1, 0, 0], [1, 1, 0]])

    def test_rows_fall_with_what_they_hang_on(self):
        text = K + N + "row a : k, n ; row b : n, k ; row c : a, b ; row d : n, n ; row e : d, d ; "
        told = ask_of(text, *[without(item) for item in range(7)])
        self.assertEqual(told, [
            [4, 0, 2, 3, 4, 0],
            [6, 1, 2, 3, 4, 5, 6, 0],
            [2, 2, 4, 0],
            [2, 3, 4, 0],
            [1, 4, 0],
            [2, 5, 6, 0],
            [1, 6, 0],
        ])

    def test_rows_without_formula_fall_too(self):
        text = N + "row a : n, n ; row b : a, n ; row c : n, b ; goal ~ p ;"
        told = ask_of(text, without(0), without(1), without(2), without(3))
        self.assertEqual(told, [[4, 0, 1, 2, 3, 1, 0], [3, 1, 2, 3, 0], [2, 2, 3, 0], [1, 3, 0]])

    def test_a_second_way_keeps_the_goal(self):
        text = K + "axiom j : x > y > x ; row a : k, k ; row b : j, j ; goal p > q > p ; goal p > q > r > q ;"
        told = ask_of(text, *[without(item) for item in range(4)])
        self.assertEqual(told, [[2, 0, 2, 0], [2, 1, 3, 0], [1, 2, 0], [1, 3, 0]])

    def test_goals_that_none_proves_are_not_lost(self):
        self.assertEqual(ask_of(K + "goal p ; goal p > q > p ; goal ~ p ;", without(0)), [[1, 0, 1, 1]])

    def test_goals_in_order(self):
        text = K + N + "goal ~ p ; goal p > q > p ; goal ~ ~ p ; goal p > p > p ;"
        self.assertEqual(ask_of(text, without(0), without(1)), [[1, 0, 2, 1, 3], [1, 1, 2, 0, 2]])

    def test_no_such_item(self):
        text = K + "row a : k, k ; goal p > p ;"
        for item in (-1, -2, 2, 3, 30, 10 ** 18, -10 ** 18, 10 ** 18 - 1):
            self.assertEqual(ask_of(text, without(item)), [[-2]])
        self.assertEqual(ask_of(text, without(0), without(1)), [[2, 0, 1, 0], [1, 1, 0]])

    def test_a_refusal_changes_nothing(self):
        text = K + "row a : k, k ; goal p > p ;"
        self.assertEqual(ask_of(text, WORTH, without(-1), WORTH, JOINTS), [[0, 0, 0], [-2], [0, 0, 0], [0]])

    def test_greatest_text(self):
        text = "".join(f"axiom a{number} : x > x ; " for number in range(6)) + "row r0 : a0, a0 ; "
        text += "".join(f"row r{number} : r{number - 1}, a0 ; " for number in range(1, 24)) + "goal p > p ; " * 4
        told = ask_of(text, without(0), without(29), without(30), WORTH)
        self.assertEqual(told[0], [25, 0] + list(range(6, 30)) + [0])
        self.assertEqual(told[1], [1, 29, 0])
        self.assertEqual(told[2], [-2])
        self.assertEqual(told[3], [4] + [0] * 30)


class Worth(unittest.TestCase):
    def test_no_goals(self):
        self.assertEqual(ask_of(K + N + "row a : k, n ;", WORTH), [[0, 0, 0, 0]])

    def test_goals_that_none_proves(self):
        self.assertEqual(ask_of(K + "goal p ; goal p > q ;", WORTH), [[0, 0]])

    def test_alike_goals_count_each(self):
        self.assertEqual(ask_of(K + "goal p > q > p ; goal q > p > q ; goal p > p > p ;", WORTH), [[3, 3]])

    def test_proved_by_two(self):
        text = K + "axiom j : x > y > x ; goal p > q > p ; goal ~ p ;"
        self.assertEqual(ask_of(text, WORTH), [[1, 0, 0]])

    def test_through_rows(self):
        text = K + N + "row a : k, n ; row b : k, a ; goal p > ~ q ; goal p > q > ~ r ;"
        self.assertEqual(ask_of(text, WORTH), [[2, 2, 2, 2, 1]])


class Joints(unittest.TestCase):
    def test_no_rows(self):
        self.assertEqual(ask_of(K + "goal p > q > p ;", JOINTS), [[0]])

    def test_axioms_are_none(self):
        self.assertEqual(ask_of(K + "row a : k, k ; row b : k, k ; goal p > q > p ;", JOINTS), [[0]])

    def test_used_twice_in_one_row(self):
        self.assertEqual(ask_of(K + "row a : k, k ; row b : a, a ;", JOINTS), [[1, 1, 2]])

    def test_used_once_in_two_rows(self):
        text = K + "row a : k, k ; row b : a, k ; row c : k, a ; row d : b, c ;"
        self.assertEqual(ask_of(text, JOINTS), [[1, 1, 2]])

    def test_used_once_is_none(self):
        self.assertEqual(ask_of(K + "row a : k, k ; row b : k, a ;", JOINTS), [[0]])

    def test_used_often(self):
        text = K + "row a : k, k ; row b : a, a ; row c : a, b ; row d : b, a ; row e : d, d ;"
        self.assertEqual(ask_of(text, JOINTS), [[3, 1, 4, 2, 2, 4, 2]])

    def test_the_first_to_prove_a_goal(self):
        text = K + N + "row a : k, n ; row b : k, n ; goal p > ~ q ;"
        self.assertEqual(ask_of(text, JOINTS), [[1, 2, 0]])
        self.assertEqual(ask_of(text.replace("goal", "goal ~ p ; goal"), JOINTS), [[1, 2, 0]])
        self.assertEqual(ask_of(text.replace("goal p > ~ q", "goal ~ p"), JOINTS), [[0]])

    def test_first_for_two_goals_and_used_twice_is_told_once(self):
        text = K + N + "row a : k, n ; row b : a, n ; row c : k, a ; goal p > ~ q ; goal p > ~ ~ q ;"
        self.assertEqual(ask_of(text, JOINTS), [[1, 2, 2]])

    def test_rows_without_formula_can_be_used_twice(self):
        self.assertEqual(ask_of(N + "row a : n, n ; row b : a, a ;", JOINTS), [[1, 1, 2]])

    def test_in_the_order_of_items_not_of_goals(self):
        text = K + N + "row a : k, n ; row b : k, a ; goal p > q > ~ r ; goal p > ~ q ;"
        self.assertEqual(ask_of(text, JOINTS), [[2, 2, 1, 3, 0]])


class Promises(unittest.TestCase):
    def asked(self, source):
        text = random_text(source)
        proof = read_text(codes(text))
        count = len(proof.formulas)
        told = ask(load(text), *[without(item) for item in range(count)], WORTH, JOINTS)
        self.assertEqual(told[0][0], 1)
        fallen = []
        lost = []
        for answer in told[1:1 + count]:
            falls = answer[1:1 + answer[0]]
            self.assertEqual(falls, sorted(set(falls)))
            goals = answer[2 + answer[0]:]
            self.assertEqual(answer[1 + answer[0]], len(goals))
            self.assertEqual(goals, sorted(set(goals)))
            fallen.append(falls)
            lost.append(goals)
        return proof, fallen, lost, told[-2], told[-1]

    def test_promise_1(self):
        source = random.Random(21)
        for turn in range(150):
            proof, fallen, lost, worths, joints = self.asked(source)
            for item, falls in enumerate(fallen):
                self.assertEqual(falls, [row for row in range(len(fallen)) if item in hangs_on(proof, row)])
                for number, row in enumerate(proof.rows, start=len(proof.axioms)):
                    falls_with = row[0] in falls or row[1] in falls
                    self.assertEqual(number in falls, number == item or falls_with)
                for goal, formula in enumerate(proof.goals):
                    provers = [prover for prover, general in enumerate(proof.formulas)
                               if general is not None and is_instance(formula, general)]
                    is_lost = len(provers) > 0 and set(provers) <= set(falls)
                    self.assertEqual(goal in lost[item], is_lost)

    def test_promise_2(self):
        source = random.Random(22)
        losing_rows = 0
        for turn in range(150):
            proof, fallen, lost, worths, joints = self.asked(source)
            for row in range(len(proof.axioms), len(fallen)):
                losing_rows += lost[row] != []
                for item in hangs_on(proof, row):
                    self.assertLessEqual(set(lost[row]), set(lost[item]))
        self.assertGreater(losing_rows, 20)

    def test_worth_is_how_many_are_lost(self):
        source = random.Random(23)
        for turn in range(100):
            proof, fallen, lost, worths, joints = self.asked(source)
            self.assertEqual(worths[1:], [len(goals) for goals in lost])
            self.assertEqual(worths[0], len([provers for provers in proof.provers if provers]))

    def test_joints_by_hand(self):
        source = random.Random(24)
        for turn in range(100):
            proof, fallen, lost, worths, joints = self.asked(source)
            places = [item for row in proof.rows for item in row]
            firsts = [min(provers) for provers in proof.provers if provers]
            expected = []
            for row in range(len(proof.axioms), len(fallen)):
                if places.count(row) >= 2 or row in firsts:
                    expected += [row, places.count(row)]
            self.assertEqual(joints, [len(expected) // 2] + expected)
