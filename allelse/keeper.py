"""A keeper of wishes by names, and of pairs of standings with their papers."""

from allelse.errors import Full, NoBack, NoName, NoStanding, NotAsked, NoWish, Taken, Unknown
from allelse.rooms import is_standing
from allelse.sets import is_shut
from allelse.steps import Leads, is_walked
from allelse.ways import told, told_by
from allelse.wishes import is_wish

LETTERS = "abcdefghijklmnopqrstuvwxyz"
MOST_LETTERS = 8
MOST_NAMES = 40
MOST_PAIRS = 100


def is_name(thing):
    """Whether it is a text of one to eight small letters."""
    if not isinstance(thing, str) or not 1 <= len(thing) <= MOST_LETTERS:
        return False
    return all([letter in LETTERS for letter in thing])


def holds(leads, pair, paper):
    """Whether a paper that was told of the pair holds by these betterings."""
    word, row = paper
    if word == "better":
        return is_walked(leads, row)
    return is_shut(leads, pair[1], row)


class Keeper:
    """Keeps a book that changes, and what was asked of it."""

    def __init__(self, room):
        self.room = room
        self.rows = []
        self.deeds = []
        self.papers = {}

    def names(self):
        """The names, in the order of their wishes."""
        return [name for name, wish in self.rows]

    def book(self):
        """The wishes, in the order in which they stand."""
        return tuple([wish for name, wish in self.rows])

    def place_of(self, name):
        """Where the wish of this name stands."""
        for at, own in enumerate(self.names()):
            if own == name:
                return at
        raise Unknown(name if isinstance(name, str) else None)

    def wish(self, name):
        """The wish of this name."""
        return self.rows[self.place_of(name)][1]

    def enter(self, name, wish):
        """Put a wish behind all others; told are the pairs asked anew, and those of them that changed."""
        if not is_name(name):
            raise NoName("a name is a text of one to eight small letters")
        if name in self.names():
            raise Taken("a wish has the name already")
        if not is_wish(self.room, wish):
            raise NoWish("it is no wish of the room")
        if len(self.rows) >= MOST_NAMES:
            raise Full("as many wishes stand as may")
        self.deeds.append((len(self.rows), None))
        self.rows.append((name, wish))
        return self.look_again()

    def drop(self, name):
        """Take the wish of this name away; told is the same as of an entering."""
        at = self.place_of(name)
        self.deeds.append((at, self.rows.pop(at)))
        return self.look_again()

    def back(self):
        """Take back the last entering or dropping; told is the same as of these."""
        if not self.deeds:
            raise NoBack("there is nothing to take back")
        at, row = self.deeds.pop()
        if row is None:
            self.rows.pop(at)
        else:
            self.rows.insert(at, row)
        return self.look_again()

    def look_again(self):
        """Ask anew the pairs whose papers don't hold by the book as it is now."""
        leads = Leads(self.room, self.book())
        anew, other_answer = [], []
        for pair in self.asked():
            before = self.papers[pair]
            if not holds(leads, pair, before):
                self.papers[pair] = told_by(leads, pair[0], pair[1])
                anew.append(pair)
                if self.papers[pair][0] != before[0]:
                    other_answer.append(pair)
        return (anew, other_answer)

    def asked(self):
        """The kept pairs, rising."""
        return sorted(self.papers)

    def ask(self, one, other):
        """Whether other is better than one; the pair is kept with its paper."""
        if not is_standing(self.room, one) or not is_standing(self.room, other):
            raise NoStanding("it is no standing of the room")
        if (one, other) not in self.papers:
            if len(self.papers) >= MOST_PAIRS:
                raise Full("as many pairs are kept as may be")
            self.papers[(one, other)] = told(self.room, self.book(), one, other)
        return self.papers[(one, other)][0] == "better"

    def must_be_kept(self, one, other):
        """Refuse what is no kept pair."""
        # A truth in the place of a worth would be found among the pairs, and a list can't be looked up there.
        are_standings = is_standing(self.room, one) and is_standing(self.room, other)
        if not are_standings or (one, other) not in self.papers:
            raise NotAsked("the pair isn't kept")

    def forget(self, one, other):
        """Keep the pair no longer."""
        self.must_be_kept(one, other)
        self.papers.pop((one, other))
        return True

    def paper(self, one, other):
        """The kept paper of the pair."""
        self.must_be_kept(one, other)
        word, row = self.papers[(one, other)]
        return (word, list(row))
