"""Books alike, or the first pair of standings that parts them."""

from allelse.rooms import must_be_small
from allelse.steps import all_betterings
from allelse.ways import told


def led_to(leads, standing):
    """All standings that are better than this one, by the betterings of each standing, rising."""
    found = set(leads[standing])
    row = list(leads[standing])
    at = 0
    while at < len(row):
        for there in leads[row[at]]:
            if there not in found:
                found.add(there)
                row.append(there)
        at += 1
    return sorted(found)


def all_better(room, book):
    """Of each standing all that are better than it, by the standings, rising."""
    leads = all_betterings(room, book)
    return {standing: led_to(leads, standing) for standing in leads}


def parted(room, book, second):
    """The first pair that parts the two books, with what shows both, or None where they are alike."""
    must_be_small(room)
    first_better, second_better = all_better(room, book), all_better(room, second)
    for one in first_better:
        here, there = first_better[one], second_better[one]
        for other in first_better:
            if other in here and other not in there:
                return parting(room, 0, one, other, book, second)
            if other in there and other not in here:
                return parting(room, 1, one, other, second, book)
    return None


def parting(room, which, one, other, book, against):
    """What is told of the pair, of which other is better than one by the book, but not by that against it."""
    return ("parts", which, one, other, told(room, book, one, other)[1], told(room, against, one, other)[1])
