"""Full books, and books laid over one another."""

from allelse.rooms import changed, must_be_small, standings
from allelse.steps import all_betterings


def full_wish(standing, box, better):
    """The wish that betters just this standing to itself changed to better at the box."""
    given = tuple([(at, worth) for at, worth in enumerate(standing) if at != box])
    return (given, box, better, standing[box])


def is_led(leads, one, other):
    """Whether the first book that betters one to other or other to one betters one to other."""
    for lead in leads:
        if other in lead[one] or one in lead[other]:
            return other in lead[one]
    return False


def laid(room, books):
    """The full book of the betterings by books of which the first one that has a say has it."""
    must_be_small(room)
    leads = [all_betterings(room, book) for book in books]
    wishes = [
        full_wish(standing, box, better)
        for standing in standings(room)
        for box, worths in enumerate(room)
        for better in range(worths)
        if is_led(leads, standing, changed(standing, box, better))
    ]
    return tuple(sorted(wishes))


def full(room, book):
    """The book with a wish for each bettering there is, whose given tells all boxes but the one."""
    # Where one book alone has a say, each of its betterings stays.
    return laid(room, [book])
