"""A right text, with all that is worked out from it once."""

from proofworth.formulas import is_instance
from proofworth.rule import detached


# None stands for an item that has no formula.
def row_formula(first, second):
    if first is None or second is None:
        return None
    return detached(first, second)


def worked_out(axioms, rows):
    formulas = list(axioms)
    for row in rows:
        formulas.append(row_formula(formulas[row[0]], formulas[row[1]]))
    return formulas


def proves(formula, goal):
    return formula is not None and is_instance(goal, formula)


def provers_of(goal, formulas):
    return [item for item, formula in enumerate(formulas) if proves(formula, goal)]


# A row is a pair of the numbers of the items that it is detached from.
class Proof:
    def __init__(self, names, axioms, rows, goals):
        self.names = names
        self.axioms = axioms
        self.rows = rows
        self.goals = goals
        self.formulas = worked_out(axioms, rows)
        self.provers = [provers_of(goal, self.formulas) for goal in goals]
