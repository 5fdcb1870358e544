"""Texts: from bytes to a proof, and from a proof to its one form."""

from proofworth.faults import NAME_MISSING, NAME_TAKEN, TOO_MANY
from proofworth.formulas import formula_form
from proofworth.letters import codes_of
from proofworth.proofs import Proof
from proofworth.reading import read_formula
from proofworth.tokens import END, reader_of

MOST_AXIOMS = 6
MOST_ROWS = 24
MOST_GOALS = 4


def begin_line(reader, word, told, most):
    reader.expect(word)
    if len(told) == most:
        reader.refuse(TOO_MANY)
    reader.advance()


# Names are the keys of a dict, in the items' order, each with its item's number.
def read_new_name(reader, names):
    name = reader.name_here()
    if name in names:
        reader.refuse(NAME_TAKEN)
    reader.advance()
    reader.take(":")
    return name


def read_item(reader, names):
    name = reader.name_here()
    if name not in names:
        reader.refuse(NAME_MISSING)
    reader.advance()
    return names[name]


def read_axiom(reader, names, axioms):
    begin_line(reader, "axiom", axioms, MOST_AXIOMS)
    name = read_new_name(reader, names)
    axioms.append(read_formula(reader))
    names[name] = len(names)


# A row's name is held only when the row has ended: it is not detached from itself.
def read_row(reader, names, rows):
    begin_line(reader, "row", rows, MOST_ROWS)
    name = read_new_name(reader, names)
    first = read_item(reader, names)
    reader.take(",")
    rows.append((first, read_item(reader, names)))
    reader.take(";")
    names[name] = len(names)


def read_goal(reader, goals):
    begin_line(reader, "goal", goals, MOST_GOALS)
    goals.append(read_formula(reader))


def read_text(codes):
    reader = reader_of(codes)
    names = {}
    axioms = []
    rows = []
    goals = []
    read_axiom(reader, names, axioms)
    while reader.word_here() == "axiom":
        read_axiom(reader, names, axioms)
    while reader.word_here() == "row":
        read_row(reader, names, rows)
    while reader.word_here() == "goal":
        read_goal(reader, goals)
    reader.expect(END)
    return Proof(list(names), axioms, rows, goals)


def axiom_line(name, formula):
    form = formula_form(formula)
    return f"axiom {name} : {form} ;\n"


def row_line(name, first, second):
    return f"row {name} : {first}, {second} ;\n"


def goal_line(formula):
    form = formula_form(formula)
    return f"goal {form} ;\n"


def one_form(proof):
    names = proof.names
    row_names = names[len(proof.axioms):]
    lines = [axiom_line(name, formula) for name, formula in zip(names, proof.axioms)]
    lines.extend([row_line(name, names[row[0]], names[row[1]]) for name, row in zip(row_names, proof.rows)])
    lines.extend([goal_line(goal) for goal in proof.goals])
    return codes_of("".join(lines))
