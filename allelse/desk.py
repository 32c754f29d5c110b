"""A desk that is told lines and answers each with a text."""

from allelse.bests import bests
from allelse.errors import NoLine
from allelse.fewest import fewest
from allelse.hangs import order
from allelse.keeper import Keeper
from allelse.needless import needless
from allelse.reader import read_given, read_standing, read_wish
from allelse.rings import ring_or_worths
from allelse.sweep import best, swept
from allelse.texts import show_row, show_standing, show_standings, show_wish
from allelse.ways import compared


def read_pair(room, words):
    """The standings that the line's next two words are."""
    return (read_standing(room, words[1]), read_standing(room, words[2]))


def show_deed(deed):
    """How many pairs a deed of the keeper asked anew, and how many changed."""
    asked, changed = deed
    return f"ok {len(asked)} {len(changed)}"


def say_enter(room, keeper, words):
    """A wish is entered."""
    wish = read_wish(room, words[2] + " " + words[3])
    return show_deed(keeper.enter(words[1], wish))


def say_drop(room, keeper, words):
    """A wish is dropped."""
    return show_deed(keeper.drop(words[1]))


def say_undo(room, keeper, words):
    """The last entering or dropping is taken back."""
    return show_deed(keeper.back())


def say_names(room, keeper, words):
    """The names, in their order."""
    return show_row(keeper.names())


def say_wish(room, keeper, words):
    """The wish of a name."""
    return show_wish(keeper.wish(words[1]))


def say_ask(room, keeper, words):
    """Whether the second standing is better than the first one."""
    one, other = read_pair(room, words)
    return "yes" if keeper.ask(one, other) else "no"


def say_why(room, keeper, words):
    """The way or the shut set that shows what is answered."""
    one, other = read_pair(room, words)
    keeper.ask(one, other)
    return show_standings(keeper.paper(one, other)[1])


def say_forget(room, keeper, words):
    """A pair is kept no longer."""
    one, other = read_pair(room, words)
    keeper.forget(one, other)
    return "ok"


def say_compare(room, keeper, words):
    """How the second standing stands to the first one."""
    one, other = read_pair(room, words)
    return compared(room, keeper.book(), one, other)


def say_state(room, keeper, words):
    """A ring of the book, or its worths."""
    word, row = ring_or_worths(room, keeper.book())
    shown = show_standings(row) if word == "ring" else show_row(row)
    return f"{word} {shown}"


def say_order(room, keeper, words):
    """The order of boxes, or a ring of them."""
    word, boxes = order(room, keeper.book())
    shown = show_row(boxes)
    return f"ring {shown}" if word == "ring" else shown


def say_best(room, keeper, words):
    """The best for a given."""
    given = read_given(room, words[1])
    return show_standing(best(room, keeper.book(), given))


def say_bests(room, keeper, words):
    """The bests for a given."""
    given = read_given(room, words[1])
    return show_standings(bests(room, keeper.book(), given))


def say_sweep(room, keeper, words):
    """The sweep from a standing to the best for a given."""
    standing, given = read_standing(room, words[1]), read_given(room, words[2])
    return show_standings(swept(room, keeper.book(), standing, given))


def say_needless(room, keeper, words):
    """The numbers of the wishes that aren't needed."""
    return show_row(needless(room, keeper.book()))


def say_fewest(room, keeper, words):
    """The fewest rows."""
    rows = [show_wish(wish) for wish in fewest(room, keeper.book())]
    return " ; ".join(rows) if rows else "-"


MANY_WORDS = {
    "enter": 4, "drop": 2, "undo": 1, "names": 1, "wish": 2, "ask": 3, "why": 3, "forget": 3, "compare": 3,
    "state": 1, "order": 1, "best": 2, "bests": 2, "sweep": 3, "needless": 1, "fewest": 1,
}
ANSWERS = {
    "enter": say_enter, "drop": say_drop, "undo": say_undo, "names": say_names, "wish": say_wish, "ask": say_ask,
    "why": say_why, "forget": say_forget, "compare": say_compare, "state": say_state, "order": say_order,
    "best": say_best, "bests": say_bests, "sweep": say_sweep, "needless": say_needless, "fewest": say_fewest,
}


class Desk:
    """Answers lines about a room, by a keeper of its own."""

    def __init__(self, room):
        self.room = room
        self.keeper = Keeper(room)

    def say(self, line):
        """The answer to a line."""
        if not isinstance(line, str):
            raise NoLine("it is no text")
        words = line.split(" ")
        if words[0] not in MANY_WORDS or len(words) != MANY_WORDS[words[0]]:
            raise NoLine("it is no line of the desk")
        answer = ANSWERS[words[0]]
        return answer(self.room, self.keeper, words)
