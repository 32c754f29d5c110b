"""Rooms, and the standings of their boxes."""

from allelse.errors import TooMany

MOST_BOXES = 8
LEAST_WORTHS = 2
MOST_WORTHS = 4
MOST_STANDINGS = 256
MOST_OF_SMALL = 64


def is_whole(thing):
    """Whether it is a whole number, which a truth is not, though Python counts it among the ints."""
    return isinstance(thing, int) and not isinstance(thing, bool)


def multiplied(room):
    """How many standings the room has."""
    many = 1
    for worths in room:
        many = many * worths
    return many


def are_boxes(thing, most):
    """Whether it is a tuple of one to so many boxes, told by how many worths each has."""
    if not isinstance(thing, tuple) or not 1 <= len(thing) <= most:
        return False
    for worths in thing:
        if not is_whole(worths) or not LEAST_WORTHS <= worths <= MOST_WORTHS:
            return False
    return True


def is_room(thing):
    """Whether it is a room."""
    return are_boxes(thing, MOST_BOXES) and multiplied(thing) <= MOST_STANDINGS


def is_small(room):
    """Whether the room is a small one."""
    return multiplied(room) <= MOST_OF_SMALL


def must_be_small(room):
    """Refuse a room that isn't a small one."""
    if not is_small(room):
        raise TooMany("the room has too many standings")


def is_box(room, thing):
    """Whether it is a box of the room."""
    return is_whole(thing) and 0 <= thing < len(room)


def is_worth(room, box, thing):
    """Whether it is a worth of this box of the room."""
    return is_whole(thing) and 0 <= thing < room[box]


def is_standing(room, thing):
    """Whether it is a standing of the room."""
    if not isinstance(thing, tuple) or len(thing) != len(room):
        return False
    for box, worth in enumerate(thing):
        if not is_worth(room, box, worth):
            return False
    return True


def are_standings(room, thing):
    """Whether it is a list of standings of the room."""
    if not isinstance(thing, list):
        return False
    for standing in thing:
        if not is_standing(room, standing):
            return False
    return True


def combined(choices):
    """All tuples with one worth out of each rising list of choices, rising."""
    rows = [()]
    for worths in choices:
        rows = [row + (worth,) for row in rows for worth in worths]
    return rows


def standings(room):
    """All standings of the room, rising."""
    return combined([list(range(worths)) for worths in room])


def number(room, standing):
    """The place of the standing among all standings of the room, reckoned without listing them."""
    place = 0
    for worths, worth in zip(room, standing):
        place = place * worths + worth
    return place


def changed(standing, box, worth):
    """The standing that has this worth at this box, all else alike."""
    return standing[:box] + (worth,) + standing[box + 1:]
