"""Proofs as trees: which are the same, and which formulas are in them."""

from proofworth.losses import fallen_items, row_items


# For each item the first one with the same tree: so two trees are the same just if these
# numbers are equal, and no tree has to be gone through.
def first_of_trees(proof):
    firsts = list(range(len(proof.axioms)))
    known = {}
    for number, row in enumerate(proof.rows, start=len(proof.axioms)):
        pair = (firsts[row[0]], firsts[row[1]])
        firsts.append(known.setdefault(pair, number))
    return firsts


def same_items(proof, item):
    firsts = first_of_trees(proof)
    return [number for number, first in enumerate(firsts) if first == firsts[item]]


# An item hangs on just those without which it falls.
def rows_below(proof, item):
    return [row for row in row_items(proof) if item in fallen_items(proof, row)]


# The keys of a dict, so that alike ones are there once, and None once for all that have none.
def formulas_in(proof, item):
    found = {}
    for row in rows_below(proof, item):
        found[proof.formulas[row]] = True
    return found
