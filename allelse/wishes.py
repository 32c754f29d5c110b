"""Wishes, and books of them."""

from allelse.givens import is_given
from allelse.rooms import is_box, is_worth

MOST_WISHES = 600


def is_wish(room, thing):
    """Whether it is a wish of the room."""
    if not isinstance(thing, tuple) or len(thing) != 4:
        return False
    given, box, better, worse = thing
    if not is_given(room, given) or not is_box(room, box):
        return False
    if box in [choice[0] for choice in given]:
        return False
    return is_worth(room, box, better) and is_worth(room, box, worse) and better != worse


def is_book(room, thing):
    """Whether it is a book of the room."""
    if not isinstance(thing, tuple) or len(thing) > MOST_WISHES:
        return False
    for wish in thing:
        if not is_wish(room, wish):
            return False
    return True


def turned(book):
    """The book with better and worse exchanged in each wish."""
    return tuple([(given, box, worse, better) for given, box, better, worse in book])
