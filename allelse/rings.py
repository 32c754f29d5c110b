"""Rings of betterings, or worths that rise at each bettering."""

from allelse.rooms import are_standings, is_whole, multiplied, number
from allelse.steps import Leads, all_betterings, is_walked


def many_into(leads):
    """How many betterings lead into each standing."""
    many = {standing: 0 for standing in leads}
    for standing in leads:
        for there in leads[standing]:
            many[there] += 1
    return many


def ring_among(leads, left):
    """A ring within the standings that are left, each of which another one of them is bettered to."""
    among = set(left)
    came_from = {}
    for here in left:
        for there in leads[here]:
            if there in among:
                came_from[there] = here
    row = []
    here = left[0]
    while here not in row:
        row.append(here)
        here = came_from[here]
    # The row goes against the betterings, and what lies ahead of the first standing met again is no part of the ring.
    return row[row.index(here):][::-1]


def ring_or_worths(room, book):
    """A ring of the book, or of each standing how many steps the longest way has that ends in it."""
    leads = all_betterings(room, book)
    waiting = many_into(leads)
    longest = {standing: 0 for standing in leads}
    # A standing is gone through when all that lead to it have been: those of a ring, and behind one, never are.
    row = [standing for standing in leads if waiting[standing] == 0]
    at = 0
    while at < len(row):
        here = row[at]
        for there in leads[here]:
            longest[there] = max(longest[there], longest[here] + 1)
            waiting[there] -= 1
            if waiting[there] == 0:
                row.append(there)
        at += 1
    left = [standing for standing in leads if waiting[standing] > 0]
    if left:
        return ("ring", ring_among(leads, left))
    return ("worths", tuple([longest[standing] for standing in leads]))


def lets_ring(room, book, thing):
    """Whether it is a ring of the book."""
    if not are_standings(room, thing) or len(thing) < 2 or len(set(thing)) != len(thing):
        return False
    return is_walked(Leads(room, book), thing + [thing[0]])


def are_worths(room, thing):
    """Whether it is a tuple of whole numbers, one for each standing of the room."""
    if not isinstance(thing, tuple) or len(thing) != multiplied(room):
        return False
    for worth in thing:
        if not is_whole(worth):
            return False
    return True


def lets_worths(room, book, thing):
    """Whether they are worths of the room's standings that keep every wish of the book."""
    if not are_worths(room, thing):
        return False
    leads = all_betterings(room, book)
    for at, standing in enumerate(leads):
        for there in leads[standing]:
            if thing[number(room, there)] <= thing[at]:
                return False
    return True
