"""Shut sets, which show that a standing isn't better than another one."""

from allelse.rooms import are_standings
from allelse.steps import Leads


def is_shut(leads, other, some):
    """Whether each bettering of each of some standings is among them and isn't other."""
    among = set(some)
    for standing in some:
        for there in leads.after(standing):
            if there == other or there not in among:
                return False
    return True


def lets_shut(room, book, one, other, thing, held=None):
    """Whether it is a shut set that shows that other isn't better than one."""
    if not are_standings(room, thing) or thing != sorted(set(thing)) or one not in thing:
        return False
    return is_shut(Leads(room, book, held), other, thing)
