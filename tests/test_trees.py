"""compare and same: trees, and the formulas in proofs."""

import unittest

from tests.helper import WORKED, ask_of, compare, same

K = "axiom k : x > y > x ; "
N = "axiom n : ~ x ; "
J = "axiom j : p > q > p ; "
EDGES = (-1, -2, 30, 10 ** 18, -10 ** 18, 10 ** 18 - 1)


def compared(text, first, second):
    told = ask_of(text, compare(first, second), compare(second, first))
    turned = [told[1][0], told[1][1], told[1][3], told[1][2]]
    if told[0] != turned:
        raise AssertionError(f"the other way round {told[1]}, not as {told[0]}")
    return told[0]


class Compare(unittest.TestCase):
    def test_axioms(self):
        self.assertEqual(compared(K + J + N, 0, 0), [1, 0, 0, 0])
        self.assertEqual(compared(K + J + N, 0, 1), [0, 0, 0, 0])
        self.assertEqual(compared(K + J + N, 0, 2), [0, 0, 0, 0])

    def test_an_axiom_and_a_row(self):
        text = K + N + "row a : k, n ; row b : k, a ;"
        self.assertEqual(compared(text, 0, 2), [0, 0, 0, 1])
        self.assertEqual(compared(text, 1, 3), [0, 0, 0, 2])

    def test_an_axiom_and_a_row_of_the_same_formula(self):
        text = "axiom n : ~ x ; axiom i : ~ x > ~ x ; row a : i, n ;"
        self.assertEqual(compared(text, 0, 2), [0, 0, 0, 1])
        self.assertEqual(ask_of(text, same(0), same(2)), [[1, 0], [1, 2]])

    def test_an_item_with_itself(self):
        text = K + N + "row a : k, n ; row b : k, a ; row c : n, n ; row d : b, c ;"
        told = [compared(text, item, item) for item in range(6)]
        self.assertEqual(told, [[1, 0, 0, 0], [1, 0, 0, 0], [1, 1, 0, 0], [1, 2, 0, 0], [1, 1, 0, 0], [1, 3, 0, 0]])

    def test_a_row_told_twice(self):
        text = K + N + "row a : k, n ; row b : k, n ; row c : k, a ; row d : k, b ; row e : c, d ; row f : d, c ;"
        self.assertEqual(compared(text, 2, 3), [1, 1, 0, 0])
        self.assertEqual(compared(text, 4, 5), [1, 2, 0, 0])
        self.assertEqual(compared(text, 6, 7), [1, 2, 0, 0])
        self.assertEqual(compared(text, 2, 4), [0, 1, 0, 1])
        self.assertEqual(ask_of(text, same(2), same(5), same(6)), [[2, 2, 3], [2, 4, 5], [2, 6, 7]])

    def test_the_order_of_both_items_counts(self):
        text = K + J + "row a : k, j ; row b : j, k ; row c : k, j ;"
        self.assertEqual(compared(text, 2, 3), [0, 1, 0, 0])
        self.assertEqual(compared(text, 2, 4), [1, 1, 0, 0])

    def test_only_one_item_is_the_same(self):
        text = K + J + "row a : k, k ; row b : k, j ; row c : j, k ; row d : j, j ;"
        for first in range(2, 6):
            for second in range(2, 6):
                self.assertEqual(compared(text, first, second), [1 if first == second else 0, 1, 0, 0])

    def test_two_trees_with_formulas_alike(self):
        text = K + J + "row a : k, k ; row b : j, j ; row c : k, a ; row d : j, b ;"
        self.assertEqual(compared(text, 2, 3), [0, 1, 0, 0])
        self.assertEqual(compared(text, 4, 5), [0, 2, 0, 0])

    def test_alike_ones_count_once_in_one_proof(self):
        text = K + J + "row a : k, k ; row b : j, j ; row c : a, b ;"
        self.assertEqual(compared(text, 4, 4), [1, 2, 0, 0])
        self.assertEqual(compared(text, 4, 2), [0, 1, 1, 0])

    def test_all_without_a_formula_count_as_one(self):
        text = K + N + "row a : n, k ; row b : n, n ; row c : a, b ; row d : c, k ; row e : k, n ; row f : e, d ;"
        self.assertEqual(compared(text, 2, 3), [0, 1, 0, 0])
        self.assertEqual(compared(text, 4, 5), [0, 1, 0, 0])
        self.assertEqual(compared(text, 5, 6), [0, 0, 1, 1])
        self.assertEqual(compared(text, 7, 6), [0, 1, 1, 0])
        self.assertEqual(compared(text, 7, 5), [0, 1, 1, 0])
        self.assertEqual(compared(text, 7, 0), [0, 0, 2, 0])

    def test_nothing_in_both(self):
        text = K + N + "row a : k, k ; row b : k, n ; row c : k, a ; row d : k, b ;"
        self.assertEqual(compared(text, 4, 5), [0, 0, 2, 2])
        self.assertEqual(compared(text, 4, 3), [0, 0, 2, 1])

    # Written out the last tree has more steps than can be gone through.
    def test_a_tree_that_doubles(self):
        text = "axiom i : x > x ; row a0 : i, i ; row b0 : i, i ; "
        for number in range(1, 12):
            text += f"row a{number} : a{number - 1}, b{number - 1} ; row b{number} : b{number - 1}, a{number - 1} ; "
        self.assertEqual(compared(text, 23, 24), [1, 1, 0, 0])
        self.assertEqual(ask_of(text, same(23), same(1)), [[2, 23, 24], [2, 1, 2]])

    def test_no_such_item(self):
        for item in EDGES + (7,):
            self.assertEqual(ask_of(WORKED, compare(item, 0), compare(0, item), compare(item, item)), [[-2]] * 3)
        self.assertEqual(ask_of(WORKED, compare(6, 0), compare(0, 6)), [[0, 0, 3, 0], [0, 0, 0, 3]])


class Same(unittest.TestCase):
    def test_axioms(self):
        self.assertEqual(ask_of(K + J + N, same(0), same(1), same(2)), [[1, 0], [1, 1], [1, 2]])

    def test_rows(self):
        text = K + N + "row a : k, n ; row b : n, k ; row c : k, n ; row d : c, a ; row e : a, a ; row f : n, k ;"
        told = ask_of(text, *[same(item) for item in range(8)])
        self.assertEqual(told, [[1, 0], [1, 1], [2, 2, 4], [2, 3, 7], [2, 2, 4], [2, 5, 6], [2, 5, 6], [2, 3, 7]])

    def test_rows_without_formula_have_their_own_trees(self):
        text = N + "row a : n, n ; row b : a, n ; row c : n, a ; row d : n, n ;"
        self.assertEqual(ask_of(text, same(1), same(2), same(3)), [[2, 1, 4], [1, 2], [1, 3]])

    def test_all_rows_the_same(self):
        text = N + "".join(f"row r{number} : n, n ; " for number in range(24))
        self.assertEqual(ask_of(text, same(24)), [[24] + list(range(1, 25))])

    def test_no_such_item(self):
        for item in EDGES + (7,):
            self.assertEqual(ask_of(WORKED, same(item), same(6)), [[-2], [1, 6]])
