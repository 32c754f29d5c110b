"""What was written, read back for a room."""

from allelse.errors import NoText
from allelse.givens import is_given
from allelse.rooms import is_standing
from allelse.wishes import is_book, is_wish

FIGURES = "0123456789"
MOST_IN_A_LIST = 256


def must_be_text(thing):
    """Refuse what is no text."""
    if not isinstance(thing, str):
        raise NoText("it is no text")


def read_figures(text, form):
    """The numbers that stand in the text where the form has 0; all other signs are to be those of the form."""
    if len(text) != len(form):
        raise NoText("there are more or fewer signs than there must be")
    numbers = []
    for sign, wanted in zip(text, form):
        if wanted == "0" and sign in FIGURES:
            numbers.append(int(sign))
        elif wanted == "0" or sign != wanted:
            raise NoText("another sign stands there than must")
    return tuple(numbers)


def read_standing(room, text):
    """The standing that is written so."""
    must_be_text(text)
    standing = read_figures(text, "0" * len(room))
    if not is_standing(room, standing):
        raise NoText("it is no standing of the room")
    return standing


def read_given(room, text):
    """The given that is written so."""
    given = () if text == "-" else tuple([read_figures(part, "0=0") for part in text.split(",")])
    if not is_given(room, given):
        raise NoText("it is no given of the room")
    return given


def read_wish(room, text):
    """The wish that is written so."""
    must_be_text(text)
    given, blank, rest = text.partition(" ")
    wish = (read_given(room, given),) + read_figures(rest, "0:0>0")
    if not is_wish(room, wish):
        raise NoText("it is no wish of the room")
    return wish


def read_book(room, text):
    """The book that is written so."""
    must_be_text(text)
    book = tuple([read_wish(room, row) for row in text.split("\n")]) if text else ()
    if not is_book(room, book):
        raise NoText("it is no book of the room")
    return book


def read_standings(room, text):
    """The list of standings that is written so."""
    must_be_text(text)
    words = [] if text == "-" else text.split(" ")
    if len(words) > MOST_IN_A_LIST:
        raise NoText("there are too many standings")
    return [read_standing(room, word) for word in words]
