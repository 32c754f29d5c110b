"""Shut sets, which show that a standing isn't better than another one."""

from allelse.rooms import are_standings
from allelse.steps import betterings


def lets_shut(room, book, one, other, thing, held=None):
    """Whether it is a shut set that shows that other isn't better than one."""
    if not are_standings(room, thing) or thing != sorted(set(thing)):
        return False
    among = set(thing)
    if one not in among:
        return False
    for standing in thing:
        for there in betterings(room, book, standing, held):
            if there == other or there not in among:
                return False
    return True
