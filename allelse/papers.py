"""Papers, looked at whoever wrote them."""

from allelse.givens import is_given, keeping, keeps
from allelse.hangs import hangs
from allelse.needless import without
from allelse.rings import lets_ring, lets_worths
from allelse.rooms import is_box, is_standing, is_whole
from allelse.sets import lets_shut
from allelse.steps import Leads
from allelse.ways import is_way, lets_way


def are_ends(room, one, other):
    """Whether both are standings of the room."""
    return is_standing(room, one) and is_standing(room, other)


def lets_better(room, book, paper):
    """Whether the paper's way leads from its one to its other."""
    word, one, other, way = paper
    return are_ends(room, one, other) and lets_way(room, book, one, other, way)


def lets_not(room, book, paper):
    """Whether the paper's set shows that its other isn't better than its one."""
    word, one, other, shut = paper
    return are_ends(room, one, other) and lets_shut(room, book, one, other, shut)


def lets_its_ring(room, book, paper):
    """Whether the paper's ring is one."""
    return lets_ring(room, book, paper[1])


def lets_its_worths(room, book, paper):
    """Whether the paper's worths keep every wish."""
    return lets_worths(room, book, paper[1])


def are_all_boxes(room, thing):
    """Whether it is a list of all boxes of the room, each once."""
    if not isinstance(thing, list) or len(thing) != len(room):
        return False
    return all([is_box(room, box) for box in thing]) and len(set(thing)) == len(room)


def lets_order(room, book, paper):
    """Whether the paper has all boxes, each behind those on which it hangs."""
    boxes = paper[1]
    if not are_all_boxes(room, boxes):
        return False
    return all([boxes.index(other) < boxes.index(box) for box, other in hangs(room, book)])


def lets_needed(room, book, paper):
    """Whether the paper's other is better than its one by the book, but not by the book without the wish."""
    word, at, one, other, way, shut = paper
    if not is_whole(at) or not 0 <= at < len(book) or not are_ends(room, one, other):
        return False
    return lets_way(room, book, one, other, way) and lets_shut(room, without(book, at), one, other, shut)


def lets_best(room, book, paper):
    """Whether all other standings that keep the paper's given lead to its standing, and that one to none of them."""
    word, given, standing, ways = paper
    if not is_given(room, given) or not is_standing(room, standing) or not keeps(standing, given):
        return False
    others = [other for other in keeping(room, given) if other != standing]
    if not isinstance(ways, list) or len(ways) != len(others):
        return False
    leads = Leads(room, book, tuple([box for box, worth in given]))
    if leads.after(standing):
        return False
    return all([is_way(leads, other, standing, way) for other, way in zip(others, ways)])


PARTS = {"better": 4, "not": 4, "ring": 2, "worths": 2, "order": 2, "needed": 6, "best": 4}
LOOKS = {
    "better": lets_better,
    "not": lets_not,
    "ring": lets_its_ring,
    "worths": lets_its_worths,
    "order": lets_order,
    "needed": lets_needed,
    "best": lets_best,
}


def lets(room, book, thing):
    """Whether it is a paper for the book, and all that it says is so."""
    if not isinstance(thing, tuple) or not thing or not isinstance(thing[0], str):
        return False
    word = thing[0]
    if word not in PARTS or len(thing) != PARTS[word]:
        return False
    look = LOOKS[word]
    return look(room, book, thing)
