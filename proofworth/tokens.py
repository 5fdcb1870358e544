"""The tokens of a text, and a reader that goes through them from left to right."""

from proofworth.faults import NO_TOKEN, NOT_ALLOWED, TOO_LONG, Fault
from proofworth.letters import BLANKS, DIGITS, LETTERS, LINE_END, MARKS, REMARK, text_of

MOST_BYTES = 4096
LONGEST_NAME = 16
GREATEST_NUMBER = 1000000000
MOST_DIGITS = 10
KEPT_WORDS = ("axiom", "row", "goal")
END = ""


def line_end(text, place):
    end = text.find(LINE_END, place)
    return len(text) if end < 0 else end


def after_blanks(text, place):
    while place < len(text):
        if text[place] == REMARK:
            place = line_end(text, place)
        elif text[place] in BLANKS:
            place += 1
        else:
            return place
    return place


def run_end(text, place, signs):
    while place < len(text) and text[place] in signs:
        place += 1
    return place


# A number can be as long as the text: its length is looked at before its value is.
def is_number(digits):
    if digits[0] == "0":
        return digits == "0"
    return len(digits) <= MOST_DIGITS and int(digits) <= GREATEST_NUMBER


def token_end(text, place):
    if text[place] in MARKS:
        return place + 1
    if text[place] in LETTERS:
        end = run_end(text, place, LETTERS + DIGITS)
        if end - place <= LONGEST_NAME:
            return end
    elif text[place] in DIGITS:
        end = run_end(text, place, DIGITS)
        if is_number(text[place:end]):
            return end
    raise Fault(NO_TOKEN, place)


# Each token is its word and its place. The text's end is told as a last token,
# so that a text which ends too soon has a token that is not allowed there.
def tokens_of(text):
    tokens = []
    place = after_blanks(text, 0)
    while place < len(text):
        end = token_end(text, place)
        tokens.append((text[place:end], place))
        place = after_blanks(text, end)
    tokens.append((END, place))
    return tokens


class Reader:
    def __init__(self, tokens):
        self.tokens = tokens
        self.at = 0

    def word_here(self):
        return self.tokens[self.at][0]

    def place_here(self):
        return self.tokens[self.at][1]

    def refuse(self, code):
        raise Fault(code, self.place_here())

    def advance(self):
        self.at += 1

    def expect(self, word):
        if self.word_here() != word:
            self.refuse(NOT_ALLOWED)

    def take(self, word):
        self.expect(word)
        self.advance()

    # The name is not taken yet: a fault that it has is told at its place.
    def name_here(self):
        word = self.word_here()
        if word == END or word[0] not in LETTERS or word in KEPT_WORDS:
            self.refuse(NOT_ALLOWED)
        return word


# All tokens are made before any is read: fault 2 goes before the faults behind it,
# wherever they stand.
def reader_of(codes):
    if len(codes) > MOST_BYTES:
        raise Fault(TOO_LONG, MOST_BYTES)
    return Reader(tokens_of(text_of(codes)))
