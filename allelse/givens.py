"""Givens, and the standings that keep them."""

from allelse.rooms import combined, is_box, is_worth


def is_choice(room, thing):
    """Whether it is a tuple of a box of the room and a worth of it."""
    if not isinstance(thing, tuple) or len(thing) != 2:
        return False
    box, worth = thing
    return is_box(room, box) and is_worth(room, box, worth)


def is_given(room, thing):
    """Whether it is a given of the room."""
    if not isinstance(thing, tuple):
        return False
    last = -1
    for choice in thing:
        if not is_choice(room, choice) or choice[0] <= last:
            return False
        last = choice[0]
    return True


def keeps(standing, given):
    """Whether the standing keeps the given."""
    for box, worth in given:
        if standing[box] != worth:
            return False
    return True


def keeping(room, given):
    """All standings of the room that keep the given, rising."""
    fixed = dict(given)
    return combined([[fixed[box]] if box in fixed else list(range(worths)) for box, worths in enumerate(room)])
