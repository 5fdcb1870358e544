"""The calls on one object, told one behind another in one list."""

from proofworth.faults import Fault
from proofworth.losses import fallen_items, joint_rows, lost_goals, proved_goals, times_used, worth_of
from proofworth.texts import one_form, read_text

LOAD = 0
SHOWN = 1
WITHOUT = 2
WORTH = 3
JOINTS = 4

NO_TEXT = -1
NO_ITEM = -2

# For each call's number: how many whole numbers, then how many lists it is told with.
SHAPES = ((0, 1), (0, 0), (1, 0), (0, 0), (0, 0), (1, 1), (1, 1), (0, 0), (2, 0), (1, 0))


def with_count(numbers):
    return [len(numbers)] + numbers


def shown(proof):
    return with_count(one_form(proof))


def without(proof, item):
    if not 0 <= item < len(proof.formulas):
        return [NO_ITEM]
    fallen = fallen_items(proof, item)
    return with_count(fallen) + with_count(lost_goals(proof, fallen))


def worth(proof):
    worths = [worth_of(proof, item) for item in range(len(proof.formulas))]
    return [len(proved_goals(proof))] + worths


def joints(proof):
    rows = joint_rows(proof)
    answer = [len(rows)]
    for row in rows:
        answer.extend([row, times_used(proof, row)])
    return answer


# The object that the calls are made on: it holds a text's proof, or none.
class Holder:
    def __init__(self):
        self.proof = None

    def load(self, codes):
        try:
            proof = read_text(codes)
        except Fault as fault:
            return [0, fault.code, fault.place]
        self.proof = proof
        return [1, len(proof.axioms), len(proof.rows), len(proof.goals)]

    def answer(self, number, arguments):
        if number == LOAD:
            return self.load(arguments[0])
        if self.proof is None:
            return [NO_TEXT]
        if number == SHOWN:
            return shown(self.proof)
        if number == WITHOUT:
            return without(self.proof, arguments[0])
        if number == WORTH:
            return worth(self.proof)
        if number == JOINTS:
            return joints(self.proof)
        raise NotImplementedError(f"call {number}")


# Every call is read by its shape, whether it is answered or refused: the next one begins
# behind it. A list is cut out, so it is a copy of what was handed in.
def read_call(calls, place):
    shape = SHAPES[calls[place]]
    place += 1
    arguments = calls[place:place + shape[0]]
    place += shape[0]
    for turn in range(shape[1]):
        end = place + 1 + calls[place]
        arguments.append(calls[place + 1:end])
        place = end
    return (arguments, place)


def answers(calls):
    holder = Holder()
    told = []
    place = 0
    while place < len(calls):
        call = read_call(calls, place)
        told.extend(with_count(holder.answer(calls[place], call[0])))
        place = call[1]
    return told
