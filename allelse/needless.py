"""Wishes that aren't needed, and books without them."""

from allelse.alike import all_better
from allelse.errors import TooMany
from allelse.rooms import must_be_small

MOST_TO_LEAN = 24


def must_be_short(book):
    """Refuse a book of too many wishes to try without each of them."""
    if len(book) > MOST_TO_LEAN:
        raise TooMany("the book has too many wishes")


def without(book, at):
    """The book without the wish of this number."""
    return book[:at] + book[at + 1:]


def needless(room, book):
    """The numbers of the wishes that aren't needed, each by itself, rising."""
    must_be_small(room)
    must_be_short(book)
    better = all_better(room, book)
    return [at for at in range(len(book)) if all_better(room, without(book, at)) == better]


def leaned(room, book):
    """What is left of the book when from the last wish to the first each that isn't needed has gone."""
    must_be_small(room)
    must_be_short(book)
    better = all_better(room, book)
    left = book
    for at in reversed(range(len(book))):
        if all_better(room, without(left, at)) == better:
            left = without(left, at)
    return left
