"""Hands round a room, who choose by turns."""

from allelse.bests import bests
from allelse.errors import NoBack, NoBook, NoBox, NoHand, NotYours, NoWorth
from allelse.rooms import changed, is_box, is_whole, is_worth
from allelse.steps import betterings
from allelse.wishes import is_book

MOST_OF_A_HAND = 100
MOST_IN_A_PLAY = 20


class Hands:
    """Hands, each with boxes and a book of its own, round one standing."""

    def __init__(self, room, owners):
        self.room = room
        self.owners = owners
        self.books = ((),) * (max(owners) + 1)
        self.now = (0,) * len(room)
        self.past = []

    def must_be_hand(self, hand):
        """Refuse what is no hand."""
        if not is_whole(hand) or not 0 <= hand < len(self.books):
            raise NoHand("it is no hand")

    def remember(self):
        """Keep what is so now, that it can be taken back."""
        self.past.append((self.books, self.now))

    def give(self, hand, book):
        """Give the hand this book in the place of its own."""
        self.must_be_hand(hand)
        if not is_book(self.room, book) or len(book) > MOST_OF_A_HAND:
            raise NoBook("it is no book of the room, or has too many wishes")
        self.remember()
        self.books = self.books[:hand] + (book,) + self.books[hand + 1:]
        return True

    def choose(self, hand, box, worth):
        """Change the standing to a worth of a box of this hand."""
        self.must_be_hand(hand)
        if not is_box(self.room, box):
            raise NoBox("it is no box of the room")
        if self.owners[box] != hand:
            raise NotYours("the box is another hand's")
        if not is_worth(self.room, box, worth):
            raise NoWorth("it is no worth of the box")
        self.remember()
        self.now = changed(self.now, box, worth)
        return True

    def back(self):
        """Take back the last giving, choosing or play."""
        if not self.past:
            raise NoBack("there is nothing to take back")
        books, standing = self.past.pop()
        self.books = books
        self.now = standing
        return True

    def standing(self):
        """The standing as it is now."""
        return self.now

    def book_of(self, hand):
        """The book of the hand."""
        self.must_be_hand(hand)
        return self.books[hand]

    def joint(self):
        """The wishes of each hand for its own boxes, hand by hand."""
        return tuple([
            wish for hand, book in enumerate(self.books) for wish in book
            if self.owners[wish[1]] == hand
        ])

    def betters(self, hand):
        """All standings to which the hand betters the standing by its own book at its own boxes, rising."""
        self.must_be_hand(hand)
        others = tuple([box for box, owner in enumerate(self.owners) if owner != hand])
        return betterings(self.room, self.books[hand], self.now, others)

    def rests(self):
        """Whether no hand betters the standing."""
        return not any([self.betters(hand) for hand in range(len(self.books))])

    def resting(self):
        """All standings that rest, rising."""
        return bests(self.room, self.joint(), ())

    def play(self, hands, most):
        """Let the hands better by turns, at most so often; told are all tuples (hand, standing) of a bettering."""
        if not isinstance(hands, list) or not 1 <= len(hands) <= MOST_IN_A_PLAY:
            raise NoHand("it is no list of one to twenty hands")
        for hand in hands:
            self.must_be_hand(hand)
        self.remember()
        done = []
        turn = 0
        passed = 0
        while passed < len(hands) and len(done) < most:
            hand = hands[turn % len(hands)]
            turn += 1
            passed += 1
            there = self.betters(hand)
            if there:
                self.now = there[0]
                done.append((hand, self.now))
                passed = 0
        return done
