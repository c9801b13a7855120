"""Changes that lead to wanted answers, and papers that show that there are none."""

from deltamill.bags import is_row
from deltamill.checks import is_number
from deltamill.errors import NotMonotone, TooMany
from deltamill.outlooks import Outlook
from deltamill.plans import NOT_MONOTONE, walk_parts

MOST_OFFERS = 8


def check_wanted(plan, offers):
    """Raise NotMonotone or TooMany unless the plan and the offers are such as can be dealt with."""
    for path, node in walk_parts(plan):
        if node[0] in NOT_MONOTONE:
            raise NotMonotone(path)
    if len(offers) > MOST_OFFERS:
        raise TooMany(MOST_OFFERS)


def fitting_changes(plan, sightings, offers):
    """The shortest and then least list of offers that fits, or None."""
    check_wanted(plan, offers)
    lists = [sorted([offers[at] for at in inside]) for inside, _ in fitting_lists(plan, sightings, offers)]
    # The shortest list of a branch has none of the offers that may be in or out there.
    return min(lists, key=lambda some: (len(some), some), default=None)


def fitting_lists(plan, sightings, offers):
    """All lists that fit: pairs of a list of indexes of offers and a list of those that may be added or not."""
    return branches_that_fit(Outlook(plan, sightings, offers), [], list(range(len(offers))))


def branches_that_fit(outlook, inside, undecided):
    """The lists that fit, as far as some offers are decided."""
    if outlook.clash(inside, undecided) is not None:
        return []
    if outlook.always_fits(inside, undecided):
        return [(inside, undecided)]
    later = undecided[1:]
    return branches_that_fit(outlook, inside, later) + branches_that_fit(outlook, inside + undecided[:1], later)


def decided(offers, given):
    """A pair of the list of the indexes of the offers that are given as inside and of those that are not given."""
    words = {offer: inside for offer, inside in given}
    inside = [at for at, offer in enumerate(offers) if words.get(offer, False)]
    return (inside, [at for at, offer in enumerate(offers) if offer not in words])


def clash_tree(plan, sightings, offers, *, given=()):
    """The tree that shows that no list of offers fits, or None if one does."""
    check_wanted(plan, offers)
    inside, undecided = decided(offers, given)
    return tree_below(Outlook(plan, sightings, offers), inside, undecided)


def tree_below(outlook, inside, undecided):
    """The tree of a node, or None."""
    clash = outlook.clash(inside, undecided)
    if clash is not None:
        return ("clash", clash[0], clash[1])
    if outlook.always_fits(inside, undecided):
        return None
    out = tree_below(outlook, inside, undecided[1:])
    if out is None:
        return None
    within = tree_below(outlook, inside + undecided[:1], undecided[1:])
    return None if within is None else ("split", out, within)


def shows_clash(tree, plan, sightings, offers, *, given=()):
    """Whether the tree shows that no list of offers fits."""
    check_wanted(plan, offers)
    inside, undecided = decided(offers, given)
    return stands(tree, Outlook(plan, sightings, offers), inside, undecided)


def stands(tree, outlook, inside, undecided):
    """Whether the node of a tree stands; it may be any value."""
    if not isinstance(tree, tuple) or len(tree) != 3 or not isinstance(tree[0], str):
        return False
    word, first, second = tree
    if word == "clash":
        if not is_number(first) or not 0 <= first < outlook.many or not is_row(second):
            return False
        return outlook.clashes(first, second, inside, undecided)
    if word != "split" or not undecided:
        return False
    later = undecided[1:]
    return stands(first, outlook, inside, later) and stands(second, outlook, inside + undecided[:1], later)


def settled(plan, sightings, offers):
    """The list of the pairs of an offer and a word that tells in which lists that fit it is, or None if none fits."""
    check_wanted(plan, offers)
    lists = fitting_lists(plan, sightings, offers)
    return [(offer, word_for(at, lists)) for at, offer in enumerate(offers)] if lists else None


def word_for(at, lists):
    """The word for the offer with the index."""
    can_be_in = any([at in inside or at in either for inside, either in lists])
    can_be_out = any([at not in inside for inside, _ in lists])
    if can_be_in and can_be_out:
        return "open"
    return "in" if can_be_in else "out"
