"""What the tests share: calls as lists of numbers, and answers parted again."""

from proofworth.items import answers

WORKED = (
    "axiom k : x > y > x ; axiom s : ( x > y > z ) > ( x > y ) > x > z ; row a : s, k ; row i : a, k ; "
    "row c : s, k ; row e : c, k ; row j : k, i ; goal p > p ; goal q > p > p ; goal p > q > p ;"
)
SHOWN = [1]
WORTH = [3]
JOINTS = [4]
UNDO = [7]


def codes(text):
    return list(text.encode("latin-1")) if isinstance(text, str) else list(text)


def load(text):
    return [0, len(codes(text))] + codes(text)


def without(item):
    return [2, item]


def parted(told):
    parts = []
    place = 0
    while place < len(told):
        end = place + 1 + told[place]
        parts.append(told[place + 1:end])
        place = end
    if place != len(told):
        raise AssertionError("the counts do not fit the answers")
    return parts


def ask(*calls):
    return parted(answers([number for call in calls for number in call]))


def ask_of(text, *calls):
    told = ask(load(text), *calls)
    if told[0][0] != 1:
        raise AssertionError(f"not a right text: {told[0]}")
    return told[1:]


def load_answer(text):
    return ask(load(text))[0]


def shown_text(text):
    told = ask_of(text, SHOWN)[0]
    if told[0] != len(told) - 1:
        raise AssertionError("shown tells a wrong count")
    return bytes(told[1:]).decode("ascii")


def proved(text):
    return ask_of(text, WORTH)[0][0]
