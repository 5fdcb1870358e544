"""What becomes of a proof if an axiom is changed, and how its items stand then."""

from proofworth.formulas import is_instance
from proofworth.proofs import Proof

ALIKE = 0
MORE_GENERAL = 1
LESS_GENERAL = 2
OTHERWISE = 3
LOST_ITS_FORMULA = 4
GAINED_A_FORMULA = 5
NONE_AS_BEFORE = 6


# The earlier proof stays as it is: it may be brought back.
def changed_proof(proof, axiom, formula):
    axioms = list(proof.axioms)
    axioms[axiom] = formula
    return Proof(proof.names, axioms, proof.rows, proof.goals)


# Alike formulas are instances of each other, so they are looked at first.
def standing(before, after):
    if before is None:
        return NONE_AS_BEFORE if after is None else GAINED_A_FORMULA
    if after is None:
        return LOST_ITS_FORMULA
    if before == after:
        return ALIKE
    if is_instance(before, after):
        return MORE_GENERAL
    if is_instance(after, before):
        return LESS_GENERAL
    return OTHERWISE


def standings(before, after):
    return [standing(old, new) for old, new in zip(before.formulas, after.formulas)]


def moved_items(stands):
    return [item for item, how in enumerate(stands) if how not in (ALIKE, NONE_AS_BEFORE)]
