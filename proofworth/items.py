"""The calls on one object, told one behind another in one list."""

from proofworth.changes import changed_proof, moved_items, standings
from proofworth.faults import Fault
from proofworth.losses import fallen_items, joint_rows, lost_goals, proved_goals, times_used, worth_of
from proofworth.reading import read_lone_formula
from proofworth.texts import one_form, read_text
from proofworth.trees import first_of_trees, formulas_in, same_items

LOAD = 0
SHOWN = 1
WITHOUT = 2
WORTH = 3
JOINTS = 4
TRY_OUT = 5
CHANGE = 6
UNDO = 7
COMPARE = 8

NO_TEXT = -1
NO_ITEM = -2
NO_CHANGE = -3

MOST_HELD = 20

# For each call's number: how many whole numbers, then how many lists it is told with.
SHAPES = ((0, 1), (0, 0), (1, 0), (0, 0), (0, 0), (1, 1), (1, 1), (0, 0), (2, 0), (1, 0))


def with_count(numbers):
    return [len(numbers)] + numbers


def shown(proof):
    return with_count(one_form(proof))


def fault_told(fault):
    return [0, fault.code, fault.place]


def is_item(proof, number):
    return 0 <= number < len(proof.formulas)


def is_axiom(proof, number):
    return 0 <= number < len(proof.axioms)


def without(proof, item):
    if not is_item(proof, item):
        return [NO_ITEM]
    fallen = fallen_items(proof, item)
    return with_count(fallen) + with_count(lost_goals(proof, fallen))


def worth(proof):
    worths = [worth_of(proof, item) for item in range(len(proof.formulas))]
    return [len(proved_goals(proof))] + worths


def joints(proof):
    rows = joint_rows(proof)
    answer = [len(rows)]
    for row in rows:
        answer.extend([row, times_used(proof, row)])
    return answer


def goal_marks(proof):
    return [1 if provers else 0 for provers in proof.provers]


def difference(before, after):
    stands = standings(before, after)
    return [len(moved_items(stands))] + stands + goal_marks(before) + goal_marks(after)


# The answer, and the proof with its axiom changed: none where the call is refused or the
# formula has a fault, as there is nothing to change to then.
def tried(proof, axiom, codes):
    if not is_axiom(proof, axiom):
        return ([NO_ITEM], None)
    try:
        formula = read_lone_formula(codes)
    except Fault as fault:
        return (fault_told(fault), None)
    changed = changed_proof(proof, axiom, formula)
    return (difference(proof, changed), changed)


def try_out(proof, axiom, codes):
    return tried(proof, axiom, codes)[0]


def compare(proof, one, other):
    if not is_item(proof, one) or not is_item(proof, other):
        return [NO_ITEM]
    firsts = first_of_trees(proof)
    in_one = formulas_in(proof, one)
    in_other = formulas_in(proof, other)
    both = len([formula for formula in in_one if formula in in_other])
    return [1 if firsts[one] == firsts[other] else 0, both, len(in_one) - both, len(in_other) - both]


def same(proof, item):
    if not is_item(proof, item):
        return [NO_ITEM]
    return with_count(same_items(proof, item))


# The calls that leave everything as it is; the one that is left in the end is same.
def looked_up(proof, number, arguments):
    if number == SHOWN:
        return shown(proof)
    if number == WITHOUT:
        return without(proof, arguments[0])
    if number == WORTH:
        return worth(proof)
    if number == JOINTS:
        return joints(proof)
    if number == TRY_OUT:
        return try_out(proof, arguments[0], arguments[1])
    if number == COMPARE:
        return compare(proof, arguments[0], arguments[1])
    return same(proof, arguments[0])


# The object that the calls are made on: it holds a text's proof, or none, and those before
# its last changes.
class Holder:
    def __init__(self):
        self.proof = None
        self.earlier = []

    def load(self, codes):
        try:
            proof = read_text(codes)
        except Fault as fault:
            return fault_told(fault)
        self.proof = proof
        self.earlier = []
        return [1, len(proof.axioms), len(proof.rows), len(proof.goals)]

    def change(self, axiom, codes):
        outcome = tried(self.proof, axiom, codes)
        if outcome[1] is not None:
            self.hold_before_change()
            self.proof = outcome[1]
        return outcome[0]

    def hold_before_change(self):
        self.earlier.append(self.proof)
        if len(self.earlier) > MOST_HELD:
            self.earlier.pop(0)

    def undo(self):
        if not self.earlier:
            return [NO_CHANGE]
        before = self.proof
        self.proof = self.earlier.pop()
        return [len(moved_items(standings(before, self.proof)))]

    def answer(self, number, arguments):
        if number == LOAD:
            return self.load(arguments[0])
        if self.proof is None:
            return [NO_TEXT]
        if number == CHANGE:
            return self.change(arguments[0], arguments[1])
        if number == UNDO:
            return self.undo()
        return looked_up(self.proof, number, arguments)


# Every call is read by its shape, whether it is answered or refused: the next one begins
# behind it. A list is cut out, so it is a copy of what was handed in.
def read_call(calls, place):
    shape = SHAPES[calls[place]]
    place += 1
    arguments = calls[place:place + shape[0]]
    place += shape[0]
    for turn in range(shape[1]):
        end = place + 1 + calls[place]
        arguments.append(calls[place + 1:end])
        place = end
    return (arguments, place)


def answers(calls):
    holder = Holder()
    told = []
    place = 0
    while place < len(calls):
        call = read_call(calls, place)
        told.extend(with_count(holder.answer(calls[place], call[0])))
        place = call[1]
    return told
