"""What the tests share: calls as lists of numbers, answers parted again, texts by chance, a second way."""

from proofworth.formulas import DENIES, IMPLIES
from proofworth.items import answers

WORKED = (
    "axiom k : x > y > x ; axiom s : ( x > y > z ) > ( x > y ) > x > z ; row a : s, k ; row i : a, k ; "
    "row c : s, k ; row e : c, k ; row j : k, i ; goal p > p ; goal q > p > p ; goal p > q > p ;"
)
SHOWN = [1]
WORTH = [3]
JOINTS = [4]
UNDO = [7]


def codes(text):
    return list(text.encode("latin-1")) if isinstance(text, str) else list(text)


def load(text):
    return [0, len(codes(text))] + codes(text)


def without(item):
    return [2, item]


def try_out(axiom, formula="x > x ;"):
    return [5, axiom, len(codes(formula))] + codes(formula)


def change(axiom, formula="x > x ;"):
    return [6, axiom, len(codes(formula))] + codes(formula)


def compare(first, second):
    return [8, first, second]


def same(item):
    return [9, item]


def parted(told):
    parts = []
    place = 0
    while place < len(told):
        end = place + 1 + told[place]
        parts.append(told[place + 1:end])
        place = end
    if place != len(told):
        raise AssertionError("the counts do not fit the answers")
    return parts


# Only such lists are handed in as the interface tells of.
def ask(*calls):
    whole = [number for call in calls for number in call]
    if not 1 <= len(calls) <= 40 or len(whole) > 17000:
        raise AssertionError(f"{len(calls)} calls with {len(whole)} numbers are too many")
    return parted(answers(whole))


def ask_of(text, *calls):
    told = ask(load(text), *calls)
    if told[0][0] != 1:
        raise AssertionError(f"not a right text: {told[0]}")
    return told[1:]


def load_answer(text):
    return ask(load(text))[0]


def shown_text(text):
    told = ask_of(text, SHOWN)[0]
    if told[0] != len(told) - 1:
        raise AssertionError("shown tells a wrong count")
    return bytes(told[1:]).decode("ascii")


def proved(text):
    return ask_of(text, WORTH)[0][0]


# Texts by chance, with many ways to a goal, and rows that have no formula.
def random_text(source):
    shapes = ["x > y > x", "( x > y > z ) > ( x > y ) > x > z", "( ~ x > ~ y ) > y > x", "~ x", "x > x",
              "x > ~ ~ x", "( x > y ) > x", "~ ~ x > y > x"]
    names = []
    text = ""
    for number in range(source.randrange(1, 7)):
        text += f"axiom a{number} : {source.choice(shapes)} ; "
        names.append(f"a{number}")
    for number in range(source.randrange(0, 25)):
        text += f"row r{number} : {source.choice(names)}, {source.choice(names)} ; "
        names.append(f"r{number}")
    shapes += ["p > p", "q > p > p", "p > ~ ~ q", "~ ~ p > p", "p > q > r > p"]
    for number in range(source.randrange(0, 5)):
        text += f"goal {source.choice(shapes)} ; "
    return text


def hangs_on(proof, item):
    if item < len(proof.axioms):
        return {item}
    first, second = proof.rows[item - len(proof.axioms)]
    return {item} | hangs_on(proof, first) | hangs_on(proof, second)


# A second way to work it out, with formulas as nested tuples that are written out in full.
def nested(formula, mark):
    ready = []
    for sign in reversed(formula):
        if sign == IMPLIES:
            first = ready.pop()
            ready.append((">", first, ready.pop()))
        elif sign == DENIES:
            ready.append(("~", ready.pop()))
        else:
            ready.append(f"{mark}{sign}")
    return ready[0]


def put_in(formula, name, part):
    if isinstance(formula, str):
        return part if formula == name else formula
    return (formula[0],) + tuple(put_in(inner, name, part) for inner in formula[1:])


def has_name(formula, name):
    if isinstance(formula, str):
        return formula == name
    return any(has_name(inner, name) for inner in formula[1:])


def plain_detached(first, second):
    whole = nested(first, "f")
    if isinstance(whole, str):
        return (0,)
    if whole[0] == "~":
        return None
    pairs = [(whole[1], nested(second, "s"))]
    result = whole[2]
    while pairs:
        one, other = pairs.pop()
        if one == other:
            continue
        if not isinstance(one, str) and isinstance(other, str):
            one, other = other, one
        if isinstance(one, str):
            if has_name(other, one):
                return None
            pairs = [(put_in(left, one, other), put_in(right, one, other)) for left, right in pairs]
            result = put_in(result, one, other)
        elif one[0] != other[0]:
            return None
        else:
            pairs.extend(zip(one[1:], other[1:]))
    formula = flat(result, {})
    return formula if len(formula) <= 60 else None


def flat(formula, numbers):
    if isinstance(formula, str):
        return (numbers.setdefault(formula, len(numbers)),)
    inner = tuple(sign for part in formula[1:] for sign in flat(part, numbers))
    return (IMPLIES if formula[0] == ">" else DENIES,) + inner


def random_nested(source, signs, names):
    if signs == 1:
        return source.choice(names)
    if signs == 2 or source.random() < 0.15:
        return ("~", random_nested(source, signs - 1, names))
    front = source.randrange(1, signs - 1)
    return (">", random_nested(source, front, names), random_nested(source, signs - 1 - front, names))


def random_formula(source, most):
    names = "abcdefgh"[:source.randrange(1, 6)]
    return flat(random_nested(source, source.randrange(1, most), names), {})
