"""The formula of try and change: its faults, their places and their order."""

import unittest

from tests.helper import SHOWN, UNDO, ask_of, change, codes, try_out

TEXT = "axiom a : x > x ; axiom b : ~ x ; row r : a, b ;"


class Base(unittest.TestCase):
    def answer(self, formula):
        told = ask_of(TEXT, try_out(1, formula), SHOWN, change(1, formula), UNDO, SHOWN)
        self.assertEqual(told[0], told[2])
        self.assertEqual(told[1], told[4])
        is_fault = len(told[0]) == 3
        self.assertEqual(told[3] == [-3], is_fault)
        return told[0]

    def right(self, formula):
        self.assertEqual(len(self.answer(formula)), 4)

    def wrong(self, formula, code, place):
        self.assertEqual(self.answer(formula), [0, code, place])

    def wrong_at(self, marked, code):
        place = marked.index("@")
        self.wrong(marked.replace("@", "", 1), code, place)


class Right(Base):
    def test_blanks_and_remarks(self):
        for formula in ("x;", " x ; ", "\n\t x\t\n;\n", "#\nx#;\n;#", "x ;# ; @ \xff", "# x ;\n x # y\n > y ; # z\n # w"):
            self.right(formula)

    def test_it_is_read_as_in_a_text(self):
        for formula in ("x > y > z", "( x > y ) > z", "~ x > y", "~ ( x > y )", "( ( x ) )", "~ ~ a > ( b > a )"):
            told = ask_of(TEXT, change(1, formula + ";"), SHOWN)[1]
            fresh = ask_of(TEXT.replace("~ x", formula), SHOWN)[0]
            self.assertEqual(told, fresh)

    def test_names_of_items_are_unknowns(self):
        told = ask_of(TEXT, change(1, "a > b > r > a ;"), SHOWN)[1]
        self.assertIn(b"axiom b : x0 > x1 > x2 > x0 ;\n", bytes(told[1:]))

    def test_words_like_the_kept_ones(self):
        self.right("axioms > Row > goal1 ;")


class Fault1(Base):
    def test_edge(self):
        self.right("x ;" + " " * 4093)
        self.wrong("x ;" + " " * 4094, 1, 4096)
        self.right("x ;#" + "c" * 4092)
        self.wrong("x ;#" + "c" * 4093, 1, 4096)

    def test_before_every_other(self):
        self.wrong("@" * 4097, 1, 4096)
        self.wrong([255] * 8192, 1, 4096)
        self.wrong(") " * 3000, 1, 4096)


class Fault2(Base):
    def test_wrong_tokens(self):
        self.wrong_at("@=", 2)
        self.wrong_at("x @- > y ;", 2)
        self.wrong_at("x ; @!", 2)
        self.wrong_at("x > @" + "n" * 17 + " ;", 2)
        self.wrong_at("@01 ;", 2)
        self.wrong_at("@1000000001 ;", 2)
        self.wrong_at("x ;@\r\n", 2)
        self.right("n" * 16 + " ;")

    def test_each_byte(self):
        known = codes("abcdefghijklmnopqrstuvwxyzABCDEFGHIJKLMNOPQRSTUVWXYZ0123456789(),:;>~# \t\n")
        for byte in range(256):
            told = ask_of(TEXT, try_out(0, codes("x ;") + [byte]))[0]
            if byte not in known:
                self.assertEqual(told, [0, 2, 3])
            elif byte in codes(" \t\n#"):
                self.assertEqual(len(told), 4)
            else:
                self.assertEqual(told, [0, 3, 3])

    def test_before_the_faults_from_left_to_right(self):
        self.wrong_at(") x x ; @00", 2)
        self.wrong_at("~" * 50 + " x ; @?", 2)
        self.wrong_at("x > " * 30 + "x ; @?", 2)


class Fault3(Base):
    def test_no_bytes(self):
        self.wrong("", 3, 0)
        self.wrong([], 3, 0)
        self.wrong(" \n ", 3, 3)
        self.wrong("# x ;", 3, 5)

    def test_no_semicolon(self):
        for formula in ("x", "x > y", "x >", "~", "(", "( x", "( x )", "~ x"):
            self.wrong(formula, 3, len(formula))
            self.wrong(formula + " # ;", 3, len(formula) + 4)

    def test_nothing_but_a_semicolon(self):
        self.wrong_at(" @;", 3)

    def test_something_behind_the_semicolon(self):
        for behind in (";", "x", "> y ;", "( y ) ;", ")", "~", "7", ",", ":", "axiom c : x ;", "row", "goal x ;"):
            self.wrong_at(f"x ; @{behind}", 3)
            self.wrong_at(f"x ;# one\n\t@{behind}", 3)

    def test_within(self):
        for marked in ("@)", "@> x ;", "x @y ;", "x > @; ", "( x @;", "x @) ;", "~ @) ;", "x @, y ;", "@: x ;", "@0 ;",
                       "x > @12 ;", "( @) ;", "x @( y ) ;", "x @~ y ;"):
            with self.subTest(marked):
                self.wrong_at(marked, 3)

    def test_kept_words(self):
        for word in ("axiom", "row", "goal"):
            self.wrong_at(f"@{word} ;", 3)
            self.wrong_at(f"x > @{word} ;", 3)
            self.wrong_at(f"x @{word} ;", 3)
            self.wrong_at(f"( x ) ; @{word}", 3)
            self.wrong_at(f"~ @{word} ;", 3)
        self.wrong_at("@axiom b : x ;", 3)


class Fault9(Base):
    def chain(self, count):
        return " > ".join(["x"] * count)

    def test_edge(self):
        self.right(f"~ ( {self.chain(20)} ) ;")
        self.right("~" * 39 + " x ;")
        self.wrong_at(f"@{self.chain(21)} ;", 9)
        self.wrong_at(f" # one\n @~ ~ ( {self.chain(20)} ) ;", 9)
        self.wrong_at(f"@{'~' * 40} x ;", 9)
        self.wrong_at(f"@( {self.chain(21)} ) ;", 9)

    def test_before_what_is_behind_the_semicolon(self):
        self.wrong_at(f"@{self.chain(21)} ; x", 9)
        self.wrong_at(f"@{self.chain(21)} ; axiom", 9)

    def test_only_when_the_semicolon_has_been_read(self):
        self.wrong_at(f"{self.chain(21)}@", 3)
        self.wrong_at(f"{self.chain(21)} @x ;", 3)
        self.wrong_at(f"( {self.chain(21)} @;", 3)
        self.wrong_at(f"{self.chain(41)} @> x ;", 10)


class Fault10(Base):
    def test_within_forty_others(self):
        self.right(f"{'(' * 40} x {')' * 40} ;")
        self.wrong_at(f"{'(' * 40} @( x {')' * 41} ;", 10)
        self.wrong_at(f"{'~' * 40} @~ x ;", 10)
        for around in ("~", "(", "x > "):
            for within in ("~ x", "( x )"):
                self.wrong_at(f"{around * 40}@{within} ;", 10)
        for around in ("(", "x > "):
            self.wrong_at(f"{around * 40}x @> x ;", 10)

    def test_what_has_ended_does_not_count(self):
        self.right(f"{'(' * 40} x {')' * 40} > {'(' * 39} x {')' * 39} ;")
        self.wrong_at(f"{'(' * 40} x {')' * 40} > {'(' * 39} @~ x {')' * 39} ;", 10)

    def test_before_the_faults_behind_it(self):
        self.wrong_at(f"{'(' * 40} @( ( ) ;", 10)
        self.wrong_at(f"{'~' * 40} @~ ~ x", 10)

    def test_lesser_fault_at_one_token(self):
        self.wrong_at(f"{'(' * 40} @> x", 3)
        self.wrong_at(f"{'(' * 40} x @~ x", 3)
        self.wrong_at(f"{'(' * 40} x @( x", 3)


# Where no item stands otherwise, 0 is no sign of a fault: a number for each item is behind it.
class NoFault(Base):
    def test_nothing_stands_otherwise(self):
        self.assertEqual(ask_of("axiom a : ~ x ;", try_out(0, "~ y ;"), change(0, "~ y ;"), UNDO), [[0, 0], [0, 0], [0]])
        text = "axiom a : ~ x ; row r : a, a ;"
        self.assertEqual(ask_of(text, try_out(0, "~ y ;"), change(0, "~ y ;")), [[0, 0, 6]] * 2)
