"""The bests of any book."""

from allelse.givens import keeping
from allelse.steps import betterings


def bests(room, book, given):
    """The standings that keep the given and of which each bettering is at a box of the given, rising."""
    held = tuple([box for box, worth in given])
    return [standing for standing in keeping(room, given) if not betterings(room, book, standing, held)]
