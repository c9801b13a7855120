"""The search for mappings: terms for the variables of a query with which it becomes another one."""

from deltamill.atoms import variables_of


def is_met(term, other, given):
    """Whether the term can become the other one, for a dict from variables to the terms that they have already."""
    kind, number = term
    if kind == "num":
        return term == other
    return given.get(number, other) == other


def is_met_by(atom, other, given):
    """Whether the atom can become the other one, each term for itself."""
    if atom[0] != other[0] or len(atom[1]) != len(other[1]):
        return False
    return all([is_met(term, image, given) for term, image in zip(atom[1], other[1])])


def given_by_head(head, other):
    """The dict of the terms of the head's variables with which it becomes the other one, or None."""
    if len(head) != len(other):
        return None
    given = {}
    for term, image in zip(head, other):
        if not is_met(term, image, given):
            return None
        if term[0] == "var":
            given[term[1]] = image
    return given


def choices_of(variable, body, atoms, given):
    """The ascending list of the terms that the variable can have where it occurs in the body."""
    found = None
    for atom in body:
        if ("var", variable) in atom[1]:
            place = atom[1].index(("var", variable))
            images = sorted({other[1][place] for other in atoms if is_met_by(atom, other, given)})
            found = [term for term in images if found is None or term in found]
    return found


def mapping_to(query, head, atoms):
    """The least tuple of terms for the variables with which the head becomes `head` and each atom one of the atoms.

    It is None if there is none.
    """
    given = given_by_head(query[0], head)
    body = query[1]
    if given is None or not all([has_image(atom, atoms, given) for atom in body]):
        return None
    variables = sorted(variables_of(body))
    choices = [choices_of(variable, body, atoms, given) for variable in variables]
    around = [[atom for atom in body if ("var", variable) in atom[1]] for variable in variables]
    found = completed(variables, choices, around, atoms, given)
    return None if found is None else tuple([found[variable] for variable in variables])


def has_image(atom, atoms, given):
    """Whether the atom can become one of the atoms."""
    return any([is_met_by(atom, other, given) for other in atoms])


def completed(variables, choices, around, atoms, given):
    """The dict of the least terms of all variables with those of `given`, or None. The first variables count most.

    For each variable there are its choices and the atoms around it.
    """
    if not variables:
        return given
    for term in choices[0]:
        made = dict(given)
        made[variables[0]] = term
        if all([has_image(atom, atoms, made) for atom in around[0]]):
            found = completed(variables[1:], choices[1:], around[1:], atoms, made)
            if found is not None:
                return found
    return None
