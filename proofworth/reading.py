"""Reading one formula that is told, up to its semicolon: within a text, or by itself."""

from proofworth.faults import NOT_ALLOWED, TOO_DEEP, TOO_MANY_SIGNS, Fault
from proofworth.formulas import DENIES, IMPLIES
from proofworth.tokens import END, reader_of

MOST_SIGNS = 40
MOST_AROUND = 40


# What has not ended is kept in order, each with the part in front of it (which > alone has):
# how many these are is how many the next one stands within.
def begin_one(reader, unended, front):
    if len(unended) == MOST_AROUND:
        reader.refuse(TOO_DEEP)
    unended.append((reader.word_here(), front))
    reader.advance()


def end_denials(unended, part):
    while unended and unended[-1][0] == "~":
        unended.pop()
        part = (DENIES,) + part
    return part


def end_implications(unended, part):
    while unended and unended[-1][0] == ">":
        front = unended.pop()[1]
        part = (IMPLIES,) + front + part
    return part


def read_unknown(reader, unended, numbers):
    while reader.word_here() in ("~", "("):
        begin_one(reader, unended, ())
    name = reader.name_here()
    reader.advance()
    return end_denials(unended, (numbers.setdefault(name, len(numbers)),))


# Behind a part whose implications have ended, only a bracket can be left unended.
def end_bracket(reader, unended, part):
    reader.expect(")")
    whole = end_implications(unended, part)
    if not unended:
        reader.refuse(NOT_ALLOWED)
    unended.pop()
    reader.advance()
    return end_denials(unended, whole)


def read_formula(reader):
    start = reader.place_here()
    numbers = {}
    unended = []
    part = read_unknown(reader, unended, numbers)
    while reader.word_here() != ";":
        if reader.word_here() == ">":
            begin_one(reader, unended, part)
            part = read_unknown(reader, unended, numbers)
        else:
            part = end_bracket(reader, unended, part)
    formula = end_implications(unended, part)
    if unended:
        reader.refuse(NOT_ALLOWED)
    reader.take(";")
    if len(formula) > MOST_SIGNS:
        raise Fault(TOO_MANY_SIGNS, start)
    return formula


def read_lone_formula(codes):
    reader = reader_of(codes)
    formula = read_formula(reader)
    reader.expect(END)
    return formula
