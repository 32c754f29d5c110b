"""Wide rooms: looks, contexts, plain books, and what is told of them without going through all standings."""

from allelse.errors import NotSettled, TooMany
from allelse.hangs import put_in_order
from allelse.rooms import are_boxes, combined, multiplied
from allelse.settled import first_against
from allelse.sweep import best_along, swept_along, told_at

MOST_WIDE_BOXES = 16
MOST_CONTEXTS = 256


def is_wide(thing):
    """Whether it is a wide room."""
    return are_boxes(thing, MOST_WIDE_BOXES)


def looked_at(book, box):
    """The boxes at which the box looks, rising."""
    return sorted({other for given, at, better, worse in book if at == box for other, worth in given})


def contexts(room, boxes):
    """All givens of just these boxes, rising."""
    return combined([[(box, worth) for worth in range(room[box])] for box in boxes])


def pairs_at(book, box, context):
    """All tuples (worse, better) of the box in the context, rising."""
    return sorted({
        (worse, better) for given, at, better, worse in book
        if at == box and all([choice in context for choice in given])
    })


def must_have_few_contexts(room, book):
    """Refuse a book by which some box has too many contexts."""
    for box in range(len(room)):
        if multiplied([room[other] for other in looked_at(book, box)]) > MOST_CONTEXTS:
            raise TooMany("a box has too many contexts")


def all_pairs(room, book):
    """The local pairs of each box in each of its contexts, as tuples (place, worths, pairs)."""
    rows = []
    for box, worths in enumerate(room):
        # A box asks its own wishes alone, so those of the others are looked through once only.
        own = [wish for wish in book if wish[1] == box]
        for context in contexts(room, looked_at(own, box)):
            rows.append(((box, context), worths, pairs_at(own, box, context)))
    return rows


def looked_over(room, book):
    """What plain tells of the book, and the order of its boxes by looks where there is one, else None."""
    must_have_few_contexts(room, book)
    looks = [(box, other) for box in range(len(room)) for other in looked_at(book, box)]
    word, boxes = put_in_order(room, looks)
    if word == "ring":
        return ("looks", boxes), None
    return first_against(all_pairs(room, book)), boxes


def plain(room, book):
    """None where the book is plain, else the first thing that stands against it."""
    return looked_over(room, book)[0]


def order_by_looks(room, book):
    """The order of boxes by looks of a plain book."""
    against, boxes = looked_over(room, book)
    if against is not None:
        raise NotSettled(against)
    return boxes


def wide_best(room, book, given):
    """The only standing that keeps the given and that a plain book betters at the given's boxes alone."""
    return best_along(room, book, order_by_looks(room, book), given)


def wide_swept(room, book, standing, given):
    """A way from the standing to the best for the given, box by box in their order by looks."""
    return swept_along(room, book, order_by_looks(room, book), standing, given)


def first_unlike(room, book, one, other):
    """Whether two standings are the same, or whether the first box at which they are unlike leads from one to other."""
    unlike = [box for box in order_by_looks(room, book) if one[box] != other[box]]
    if not unlike:
        return ("same",)
    # All at which this box looks come ahead of it, and there both standings are alike: they share its context.
    box = unlike[0]
    word = told_at(room, book, box, one, other[box])[0]
    return ("open",) if word == "better" else ("first", box)
