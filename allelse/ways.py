"""Ways: rows of betterings from a standing to another one."""

from allelse.rooms import are_standings
from allelse.steps import Leads, is_walked


def search(leads, one, other):
    """Go from one over ever more betterings till a bettering to other is found.

    Told is a dict that has, for each standing come to, the one that it was first come to from,
    and the standing that is bettered to other, or None.
    """
    # Ways are gone through by their length, and those of a length as lists compare, since the betterings
    # of a standing rise: so the first way that comes to a standing is the least of the shortest ones.
    came_from = {one: None}
    row = [one]
    at = 0
    while at < len(row):
        here = row[at]
        for there in leads.after(here):
            if there == other:
                return came_from, here
            if there not in came_from:
                came_from[there] = here
                row.append(there)
        at += 1
    return came_from, None


def way_to(came_from, standing):
    """The way that first came to the standing."""
    row = []
    here = standing
    while here is not None:
        row.append(here)
        here = came_from[here]
    return row[::-1]


def told_by(leads, one, other):
    """That other is better than one, with the way, or that it isn't, with the shut set."""
    came_from, last = search(leads, one, other)
    if last is None:
        return ("not", sorted(came_from))
    return ("better", way_to(came_from, last) + [other])


def told(room, book, one, other, held=None):
    """What is told of one and other by the book, for held boxes: better, with the way, or not, with the shut set."""
    return told_by(Leads(room, book, held), one, other)


def reached(room, book, standing, held=None):
    """The standing and all that are better than it, rising."""
    # No standing is None, so nothing ends the search ahead of time.
    return sorted(search(Leads(room, book, held), standing, None)[0])


def compared(room, book, one, other):
    """How other stands to one: same, both, better, worse, or apart."""
    if one == other:
        return "same"
    is_better = other in reached(room, book, one)
    is_worse = one in reached(room, book, other)
    if is_better and is_worse:
        return "both"
    if is_better:
        return "better"
    return "worse" if is_worse else "apart"


def is_way(leads, one, other, thing):
    """Whether it is a way of two standings or more from one to other."""
    if not are_standings(leads.room, thing) or len(thing) < 2:
        return False
    return thing[0] == one and thing[-1] == other and is_walked(leads, thing)


def lets_way(room, book, one, other, thing, held=None):
    """Whether it is a way of two standings or more from one to other, each step at a box that isn't held."""
    return is_way(Leads(room, book, held), one, other, thing)
