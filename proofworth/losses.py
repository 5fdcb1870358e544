"""What falls and what is lost without an item, and which rows are joints."""


# Rows hang on earlier items alone, so one walk in order finds all that fall, in order.
def fallen_items(proof, item):
    fallen = [item]
    for number, row in enumerate(proof.rows, start=len(proof.axioms)):
        if row[0] in fallen or row[1] in fallen:
            fallen.append(number)
    return fallen


def is_lost(provers, fallen):
    return len(provers) > 0 and all([item in fallen for item in provers])


def lost_goals(proof, fallen):
    return [goal for goal, provers in enumerate(proof.provers) if is_lost(provers, fallen)]


def proved_goals(proof):
    return [goal for goal, provers in enumerate(proof.provers) if provers]


def worth_of(proof, item):
    return len(lost_goals(proof, fallen_items(proof, item)))


def times_used(proof, item):
    return sum([row.count(item) for row in proof.rows])


def first_provers(proof):
    return [proof.provers[goal][0] for goal in proved_goals(proof)]


def row_items(proof):
    return list(range(len(proof.axioms), len(proof.formulas)))


def joint_rows(proof):
    firsts = first_provers(proof)
    return [item for item in row_items(proof) if times_used(proof, item) >= 2 or item in firsts]
