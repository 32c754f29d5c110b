"""The fewest rows with the very same betterings."""

from allelse.cover import least_by, wide_by_grounds
from allelse.rooms import must_be_small


def fewest(room, book):
    """A book with the very same betterings and as few wishes as can be."""
    must_be_small(room)
    wishes = []
    for box, worths in enumerate(room):
        for better in range(worths):
            for worse in range(worths):
                if better != worse:
                    wide = wide_by_grounds(room, book, box, better, worse)
                    wishes = wishes + [(given, box, better, worse) for given in least_by(wide)]
    return tuple(wishes)
