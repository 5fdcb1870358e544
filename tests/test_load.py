"""load: right texts, and every fault's code and place."""

import unittest

from tests.helper import SHOWN, WORTH, ask, codes, load, load_answer, shown_text

A = "axiom a : x ; "


def axioms(count):
    return "".join(f"axiom a{number} : x ; " for number in range(count))


def rows(count):
    return "".join(f"row r{number} : a, a ; " for number in range(count))


def goals(count):
    return "goal x ; " * count


class Base(unittest.TestCase):
    def right(self, text, *counts):
        self.assertEqual(load_answer(text), [1] + list(counts))

    def wrong(self, text, code, place):
        self.assertEqual(load_answer(text), [0, code, place])

    # The place is told as the place of a mark, which is left out of the text.
    def wrong_at(self, marked, code):
        place = marked.index("@")
        self.wrong(marked.replace("@", "", 1), code, place)


class RightTexts(Base):
    def test_least(self):
        self.right("axiom a : x ;", 1, 0, 0)

    def test_most_of_each(self):
        self.right(axioms(6).replace("a0", "a") + rows(24) + goals(4), 6, 24, 4)

    def test_no_blanks_where_none_are_needed(self):
        self.right("axiom a:~(x>y)>~~x;row b:a,a;goal x;", 1, 1, 1)

    def test_blanks_and_remarks_between_tokens_and_at_both_ends(self):
        self.right("#\n \t\n# axiom # ;\naxiom#k\na\t:\nx#\n;row\nr : a # @ \x00\xff\n , a\n;# the end", 1, 1, 0)

    def test_remark_at_the_very_end(self):
        self.right("axiom a : x ;#", 1, 0, 0)
        self.right("axiom a : x ;# goal", 1, 0, 0)

    def test_remark_ends_before_the_line_end(self):
        self.right("axiom a : x ;# row\ngoal x ;", 1, 0, 1)

    def test_remark_parts_tokens(self):
        self.wrong_at("axiom a : x#\n@y ;", 3)
        self.wrong_at("ax#\niom a : x ;".replace("ax", "@ax", 1), 3)

    def test_words_like_the_kept_ones_are_names(self):
        self.right("axiom Axiom : Row > goals ; row axiom1 : Axiom, Axiom ;", 1, 1, 0)

    def test_names_of_items_and_unknowns_do_not_meet(self):
        self.right("axiom a : a > a ; row x : a, a ; goal x > a ;", 1, 1, 1)

    def test_rows_without_formula_are_right(self):
        self.right("axiom a : ~ x ; row b : a, a ; row c : b, b ;", 1, 2, 0)

    def test_names_with_small_great_letters_and_digits(self):
        self.right("axiom aZ09zA : x ; row aZ09za : aZ09zA, aZ09zA ;", 1, 1, 0)


class Fault1(Base):
    def test_edge(self):
        text = "axiom a : x ;"
        self.right(text + " " * (4096 - len(text)), 1, 0, 0)
        self.wrong(text + " " * (4097 - len(text)), 1, 4096)

    def test_before_every_other_fault(self):
        self.wrong("@" * 4097, 1, 4096)
        self.wrong("row" + " " * 8189, 1, 4096)

    def test_greatest_list(self):
        self.wrong([255] * 8192, 1, 4096)

    def test_remarks_count_as_bytes(self):
        self.right("axiom a : x ;#" + "c" * 4082, 1, 0, 0)
        self.wrong("axiom a : x ;#" + "c" * 4083, 1, 4096)


class Fault2(Base):
    def test_each_byte_outside_of_remarks(self):
        known = codes("abcdefghijklmnopqrstuvwxyzABCDEFGHIJKLMNOPQRSTUVWXYZ0123456789(),:;>~# \t\n")
        for byte in range(256):
            told = load_answer(codes("axiom a : x ; ") + [byte])
            if byte in known:
                self.assertNotEqual(told[:2], [0, 2], byte)
            else:
                self.assertEqual(told, [0, 2, 14], byte)

    def test_each_byte_in_a_remark(self):
        for byte in range(256):
            text = codes("axiom a : x ; #") + [byte] + codes(" @")
            self.assertEqual(load_answer(text), [0, 2, 17] if byte == 10 else [1, 1, 0, 0], byte)

    def test_bytes_within_a_token(self):
        self.wrong_at("axiom a : x@_y ;", 2)
        self.wrong_at("ax@\xe4iom a : x ;", 2)
        self.wrong_at("axiom a : x @=> y ;", 2)
        self.wrong_at("axiom a : x ;@\r\n", 2)

    def test_long_names(self):
        name = "n" * 16
        self.right(f"axiom {name} : {name} ;", 1, 0, 0)
        self.wrong_at(f"axiom @{name}n : x ;", 2)
        self.wrong_at(f"axiom a : @{name}1 ;", 2)
        self.wrong_at(f"axiom a : x > @{'q' * 300} ;", 2)
        self.wrong_at("@axiomaxiomaxiomax", 2)

    def test_name_of_sixteen_is_one_token(self):
        self.wrong_at("axiom a : @abcdefghijklmnopq", 2)
        self.right("axiom a : abcdefghijklmnop ;", 1, 0, 0)

    def test_numbers(self):
        for number in ("0", "7", "10", "999999999", "1000000000"):
            self.wrong_at(f"axiom a : @{number} ;", 3)
        for number in ("1000000001", "00", "01", "0000000001", "9999999999", "10000000000", "1" * 4000, "0" * 4000):
            self.wrong_at(f"axiom a : @{number} ;", 2)

    def test_number_ends_where_a_name_begins(self):
        self.wrong_at("axiom a : @12x ;", 3)
        self.wrong_at("axiom a : x ; 1@" + "y" * 17, 2)

    def test_first_of_several(self):
        self.wrong_at("axiom @01 : \xff ;", 2)
        self.wrong_at("axiom a : @\xff 01 ;", 2)

    def test_before_the_faults_from_left_to_right(self):
        self.wrong_at("row goal ; ) @01", 2)
        self.wrong_at("axiom a : x ; axiom a : x ; row b : q, q ; @?", 2)
        self.wrong_at("axiom a : " + "~" * 60 + "x ; @!", 2)


class Fault3(Base):
    def test_text_ends_too_soon(self):
        whole = ["axiom", "a", ":", "(", "~", "x", ">", "y", ")", ";"]
        for count in range(len(whole)):
            text = " ".join(whole[:count])
            self.wrong(text, 3, len(text))
            self.wrong(text + " # \n ", 3, len(text) + 5)

    def test_empty_texts(self):
        self.wrong("", 3, 0)
        self.wrong(" \n\t", 3, 3)
        self.wrong("# axiom a : x ;", 3, 15)

    def test_row_and_goal_end_too_soon(self):
        for whole in (["row", "b", ":", "a", ",", "a", ";"], ["goal", "x", ";"]):
            for count in range(1, len(whole)):
                text = A + " ".join(whole[:count])
                self.wrong(text, 3, len(text))

    def test_an_axiom_comes_first(self):
        for word in ("row", "goal", "a", "1", ";", "(", "~", ">", ":", ",", ")"):
            self.wrong_at(f" @{word} a : x ;", 3)

    def test_order_of_lines(self):
        self.wrong_at(A + "row b : a, a ; @axiom c : x ;", 3)
        self.wrong_at(A + "goal x ; @axiom c : x ;", 3)
        self.wrong_at(A + "goal x ; @row c : a, a ;", 3)
        self.wrong_at(A + "@;", 3)
        self.wrong_at(A + "@x", 3)

    def test_within_lines(self):
        for marked in (
            "axiom @: x ;", "axiom @axiom : x ;", "axiom @row : x ;", "axiom @goal : x ;", "axiom @1 : x ;",
            "axiom a @x ;", "axiom a @; x ;", "axiom a : @; ", "axiom a : @: x ;", "axiom a : @row ;",
            A + "row @: a, a ;", A + "row @row : a, a ;", A + "row b @a, a ;", A + "row b : @, a ;",
            A + "row b : a @a ;", A + "row b : a, @;", A + "row b : a, a @, a ;", A + "row b : a, a @goal x ;",
            A + "row b : @~ a, a ;", A + "row b : a, @goal ;", A + "row b : @( a ), a ;",
            A + "goal @;", A + "goal x@: y ;", A + "goal x @goal y ;", A + "goal @goal ;",
        ):
            with self.subTest(marked):
                self.wrong_at(marked, 3)

    def test_within_formulas(self):
        for formula in (
            "@)", "@> x", "x @y", "x @~ y", "x @( y )", "x > @;", "x > @> y", "x > @)", "( @)", "( x @;", "( x > y @;",
            "x @)", "x > y @)", "( x ) @)", "( x @, y )", "~ @;", "~ @> x", "~ @)", "( x @x )", "( x ) @x", "x @: y",
            "( ( x ) @;", "~ ( x > @)", "x > ( @; )", "x @axiom", "( x @row )", "x > @goal", "~ @3", "x @0",
        ):
            with self.subTest(formula):
                self.wrong_at(f"axiom a : {formula} ;", 3)


class Fault4(Base):
    def test_seventh_axiom(self):
        self.right(axioms(6), 6, 0, 0)
        self.wrong_at(axioms(6) + "@axiom b : x ;", 4)
        self.wrong_at(axioms(6) + "@axiom", 4)

    def test_twenty_fifth_row(self):
        self.right(A + rows(24), 1, 24, 0)
        self.wrong_at(A + rows(24) + "@row b : a, a ;", 4)
        self.wrong_at(A + rows(24) + "@row row", 4)

    def test_fifth_goal(self):
        self.right(A + goals(4), 1, 0, 4)
        self.wrong_at(A + goals(4) + "@goal x ;", 4)

    def test_lesser_fault_at_one_token(self):
        self.wrong_at(axioms(6) + "row b : a0, a0 ; @axiom b : x ;", 3)
        self.wrong_at(A + rows(24) + "goal x ; @row b : a, a ;", 3)


class Fault5(Base):
    def test_axioms(self):
        self.wrong_at(A + "axiom @a : x ;", 5)
        self.wrong_at(A + "axiom b : x ; axiom @a", 5)
        self.right(A + "axiom A : x ;", 2, 0, 0)

    def test_rows(self):
        self.wrong_at(A + "row @a : a, a ;", 5)
        self.wrong_at(A + "row b : a, a ; row @b : q ;", 5)

    def test_an_axiom_of_its_own_name_within(self):
        self.right("axiom x : x ;", 1, 0, 0)

    def test_left_to_right(self):
        self.wrong_at(A + "axiom @a a : ) ;", 5)
        self.wrong_at("axiom a : @) ; axiom a : x ;", 3)


class Fault8(Base):
    def test_names_that_no_item_has(self):
        self.wrong_at(A + "row b : @c, a ;", 8)
        self.wrong_at(A + "row b : a, @c ;", 8)
        self.wrong_at(A + "row b : @c, d ;", 8)
        self.wrong_at(A + "row b : @A, a ;", 8)
        self.wrong_at(A + "row b : @x, a ;", 8)

    def test_the_row_itself_and_later_ones(self):
        self.wrong_at(A + "row b : @b, a ;", 8)
        self.wrong_at(A + "row b : a, @b ;", 8)
        self.wrong_at(A + "row b : a, @c ; row c : a, a ;", 8)

    def test_earlier_rows(self):
        self.right(A + "row b : a, a ; row c : b, a ; row d : c, b ;", 1, 3, 0)

    def test_left_to_right(self):
        self.wrong_at(A + "row b : @c c", 8)
        self.wrong_at(A + "row b : a @c", 3)
        self.wrong_at(A + "row b : @c, a ; axiom", 8)


class Fault9(Base):
    def chain(self, count):
        return " > ".join(["x"] * count)

    def test_edge_of_implications(self):
        self.right(f"axiom a : {self.chain(20)} ;", 1, 0, 0)
        self.right(f"axiom a : ~ ( {self.chain(20)} ) ;", 1, 0, 0)
        self.wrong_at(f"axiom a : @{self.chain(21)} ;", 9)
        self.wrong_at(f"axiom a : @~ ~ ( {self.chain(20)} ) ;", 9)
        self.wrong_at(f"axiom a : @( {self.chain(21)} ) ;", 9)

    def test_edge_of_denials(self):
        self.right(f"axiom a : {'~' * 39} x ;", 1, 0, 0)
        self.wrong_at(f"axiom a : @{'~' * 40} x ;", 9)

    def test_brackets_are_no_signs(self):
        self.right(f"axiom a : {'(' * 40} x {')' * 40} ;", 1, 0, 0)

    def test_goals(self):
        self.right(A + f"goal ~ ( {self.chain(20)} ) ;", 1, 0, 1)
        self.wrong_at(A + f"goal @{self.chain(21)} ;", 9)

    def test_only_when_the_semicolon_has_been_read(self):
        self.wrong_at(f"axiom a : {self.chain(30)} @) ;", 3)
        self.wrong_at(f"axiom a : {self.chain(30)} @", 3)
        self.wrong_at(f"axiom a : {self.chain(30)} > {'~' * 10} @~ x ;", 10)
        self.wrong_at(f"axiom a : @{self.chain(30)} ; axiom a", 9)
        self.wrong_at(A + f"axiom @a : {self.chain(30)} ;", 5)

    def test_much_longer(self):
        part = f"( {self.chain(20)} )"
        self.wrong_at("axiom a : @" + " > ".join([part] * 20) + " ;", 9)


class Fault10(Base):
    def test_denials(self):
        self.wrong_at(f"axiom a : {'~' * 40}@~ x ;", 10)
        self.wrong_at(f"axiom a : @{'~' * 40} x ;", 9)

    def test_brackets(self):
        self.right(f"axiom a : {'(' * 40} x {')' * 40} ;", 1, 0, 0)
        self.wrong_at(f"axiom a : {'(' * 40}@( x {')' * 41} ;", 10)

    def test_implications(self):
        self.wrong_at(f"axiom a : @{'x > ' * 40} x ;", 9)
        self.wrong_at(f"axiom a : {'x > ' * 40} x @> x ;", 10)

    def test_each_sign_within_each(self):
        for around in ("~", "(", "x > "):
            for within in ("~ x", "( x )", "> x"):
                front = "x " if within == "> x" else ""
                if front and around == "~":
                    continue
                with self.subTest(around + within):
                    self.wrong_at(f"axiom a : {around * 40}{front}@{within} ;", 10)

    def test_mixed(self):
        self.right(f"axiom a : {'~(' * 13}x>{'(' * 12}~x{')' * 25} ;", 1, 0, 0)
        self.wrong_at(f"axiom a : {'~(' * 13}x>{'(' * 13}@~x{')' * 26} ;", 10)

    def test_what_has_ended_does_not_count(self):
        self.right(f"axiom a : {'(' * 40} x {')' * 40} > {'(' * 39} x {')' * 39} ;", 1, 0, 0)
        self.wrong_at(f"axiom a : {'(' * 40} x {')' * 40} > {'(' * 39} @( x {')' * 40} ;", 10)
        self.right(f"axiom a : {'~' * 30} x > y > {'(' * 38} y {')' * 38} ;", 1, 0, 0)
        self.wrong_at(f"axiom a : {'~' * 30} x > y > {'(' * 38} @( y {')' * 39} ;", 10)

    def test_implications_end_with_their_bracket(self):
        inner = "( x > y > z > x )"
        self.right(f"axiom a : {inner} > {inner} > {'(' * 38} x {')' * 38} ;", 1, 0, 0)
        self.wrong_at(f"axiom a : {inner} > {inner} > {'(' * 38} @( x {')' * 39} ;", 10)

    def test_a_denial_ends_with_its_bracket(self):
        self.right(f"axiom a : ~ ( ~ x ) > {'(' * 39} x {')' * 39} ;", 1, 0, 0)
        self.wrong_at(f"axiom a : ~ ( ~ x ) > {'(' * 39} @( x {')' * 40} ;", 10)

    def test_goals_and_formulas_by_themselves(self):
        deep = f"{'(' * 40} x {')' * 40} ;"
        self.right(f"axiom a : {deep} goal {deep} goal {deep}", 1, 0, 2)
        self.wrong_at(f"axiom a : {deep} goal {'(' * 40} @( x {')' * 41} ;", 10)

    def test_lesser_fault_at_one_token(self):
        self.wrong_at(f"axiom a : {'(' * 40} @> x", 3)
        self.wrong_at(f"axiom a : {'~' * 40} @> x", 3)
        self.wrong_at(f"axiom a : {'(' * 40} x @~ x", 3)
        self.wrong_at(f"axiom a : {'(' * 40} x @( x", 3)


class WrongTextsChangeNothing(Base):
    def test_object_stays_as_it_was(self):
        wrong = ["", "@", "axiom", axioms(7), A + "axiom a : x ;", A + "row b : c, a ;",
                 f"axiom b : {'~' * 40} x ;", f"axiom b : {'(' * 41} x ;", " " * 4097, A + "goal x ; row"]
        first = ask(load("axiom k : x > y > x ; row r : k, k ; goal p > p ;"), SHOWN, WORTH)
        for text in wrong:
            told = ask(load("axiom k : x > y > x ; row r : k, k ; goal p > p ;"), load(text), SHOWN, WORTH)
            self.assertEqual(told[1][0], 0)
            self.assertEqual(told[2:], first[1:])

    def test_none_stays_none(self):
        self.assertEqual(ask(load("axiom"), SHOWN), [[0, 3, 5], [-1]])

    def test_right_text_takes_the_place(self):
        told = ask(load(A), load("axiom b : ~ q ;"), SHOWN)
        self.assertEqual(bytes(told[2][1:]), b"axiom b : ~ x0 ;\n")

    def test_a_text_is_right_by_itself(self):
        self.assertEqual(ask(load(A), load("axiom a : y ; row r : a, a ;"))[1], [1, 1, 1, 0])


class ShownAgain(Base):
    def test_shown_of_a_remarked_text(self):
        self.assertEqual(shown_text("axiom a#1\n:x#2\n;# 3"), "axiom a : x0 ;\n")
