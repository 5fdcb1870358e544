"""Formulas as tuples of signs.

A formula is a tuple with one whole number for each of its signs: F > G is IMPLIES, then F, then G;
~ F is DENIES, then F; an unknown is its number, from 0 as they come. So its length is how many
signs it has, and formulas are alike just if their tuples are equal.
"""

IMPLIES = -1
DENIES = -2


def part_end(formula, place):
    missing = 1
    while missing > 0:
        if formula[place] == IMPLIES:
            missing += 1
        elif formula[place] != DENIES:
            missing -= 1
        place += 1
    return place


def is_instance(formula, general):
    put = {}
    place = 0
    for sign in general:
        if sign in (IMPLIES, DENIES):
            if formula[place] != sign:
                return False
            place += 1
        else:
            end = part_end(formula, place)
            part = formula[place:end]
            if put.setdefault(sign, part) != part:
                return False
            place = end
    return True


def in_brackets(form, is_implication):
    return f"( {form} )" if is_implication else form


# From right to left, each sign finds its parts' forms ready.
def formula_form(formula):
    forms = []
    for sign in reversed(formula):
        if sign == IMPLIES:
            first = forms.pop()
            second = forms.pop()
            forms.append((in_brackets(first[0], first[1]) + " > " + second[0], True))
        elif sign == DENIES:
            part = forms.pop()
            forms.append(("~ " + in_brackets(part[0], part[1]), False))
        else:
            forms.append((f"x{sign}", False))
    return forms[0][0]
