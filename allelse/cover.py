"""Covers of grounds by as few givens as can be, and trees that show that no fewer do."""

from allelse.errors import TooMany
from allelse.givens import is_given, keeps
from allelse.grounds import grounds, wide_givens
from allelse.rooms import is_standing, must_be_small

MOST_GROUNDS = 12


def wide_by_grounds(room, book, box, better, worse):
    """Of each of the grounds the wide givens that it keeps, by the grounds, rising."""
    must_be_small(room)
    some = grounds(room, book, box, better, worse)
    if len(some) > MOST_GROUNDS:
        raise TooMany("there are too many grounds")
    return {ground: wide_givens(room, some, box, worse, ground) for ground in some}


def not_keeping(left, given):
    """Those of the grounds still open that don't keep the given."""
    return tuple([ground for ground in left if not keeps(ground, given)])


def least_cover(wide, left, known):
    """As few wide givens as can be that cover the grounds still open; known has those found so far, by the open."""
    if not left:
        return []
    if left not in known:
        # Whatever covers the first of them has a given that it keeps, so no others need be tried.
        covers = [[given] + least_cover(wide, not_keeping(left, given), known) for given in wide[left[0]]]
        known[left] = min(covers, key=len)
    return known[left]


def least_by(wide):
    """As few wide givens as can be that cover all of the grounds."""
    return least_cover(wide, tuple(wide), {})


def tree_of(wide, left, m):
    """A tree for the grounds still open, which no m givens or fewer cover."""
    ground = min(left, key=lambda one: len(wide[one]))
    if m == 0:
        return (ground, [])
    return (ground, [(given, tree_of(wide, not_keeping(left, given), m - 1)) for given in wide[ground]])


def cover(room, book, box, better, worse):
    """A cover of the grounds by as few givens as can be, and a tree that shows that one fewer don't, or None."""
    wide = wide_by_grounds(room, book, box, better, worse)
    givens = least_by(wide)
    tree = tree_of(wide, tuple(wide), len(givens) - 1) if wide else None
    return (givens, tree)


def is_pair(thing):
    """Whether it is a tuple of two things."""
    return isinstance(thing, tuple) and len(thing) == 2


def is_tree(room, wide, left, m, thing):
    """Whether it is a tree for the grounds still open and m."""
    if not is_pair(thing):
        return False
    ground, tries = thing
    if not is_standing(room, ground) or ground not in left or not isinstance(tries, list):
        return False
    givens = [] if m == 0 else wide[ground]
    if len(tries) != len(givens):
        return False
    return all([is_try(room, wide, left, m, given, tried) for given, tried in zip(givens, tries)])


def is_try(room, wide, left, m, given, thing):
    """Whether it is a tuple of this given and of a tree for one fewer and what it leaves open."""
    if not is_pair(thing) or not is_given(room, thing[0]) or thing[0] != given:
        return False
    return is_tree(room, wide, not_keeping(left, given), m - 1, thing[1])


def lets_tree(room, book, box, better, worse, m, thing):
    """Whether it is a tree for the grounds and m."""
    wide = wide_by_grounds(room, book, box, better, worse)
    return is_tree(room, wide, tuple(wide), m, thing)
