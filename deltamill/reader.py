"""The text of a plan, and the plan of a text."""

from deltamill.errors import BadPlan, BadText
from deltamill.forms import check_forms
from deltamill.scanner import Scanner
from deltamill.writing import text_of

MOST_BRACKETS = 10


def show(plan):
    """The text of the plan."""
    return text_of(plan)


def read(text):
    """The plan whose text this is."""
    if brackets_inside(text) > MOST_BRACKETS:
        raise BadText(text)
    plan = Scanner(text).take_plan()
    # The scanner leaves what is behind the plan, and it takes some texts that are not the text of what it makes.
    if not is_plan(plan) or show(plan) != text:
        raise BadText(text)
    return plan


def brackets_inside(text):
    """How many round opening brackets at most are open at the same time."""
    most = 0
    many = 0
    for letter in text:
        if letter == "(":
            many = many + 1
        elif letter == ")":
            many = many - 1
        most = max(most, many)
    return most


def is_plan(plan):
    """Whether all nodes of the value have one of the forms of a plan."""
    try:
        check_forms(plan)
    except BadPlan:
        return False
    return True
