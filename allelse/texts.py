"""What standings, givens, wishes and books are written as."""


def show_standing(standing):
    """The worths as figures."""
    return "".join([str(worth) for worth in standing])


def show_given(given):
    """Each box with its worth, commas between, none as a dash."""
    if not given:
        return "-"
    return ",".join([f"{box}={worth}" for box, worth in given])


def show_wish(wish):
    """The given, the box, the better and the worse worth."""
    given, box, better, worse = wish
    return f"{show_given(given)} {box}:{better}>{worse}"


def show_book(book):
    """The wishes, a line each, none as no sign."""
    return "\n".join([show_wish(wish) for wish in book])


def show_row(words):
    """Words or whole numbers with blanks between, none as a dash."""
    if not words:
        return "-"
    return " ".join([str(word) for word in words])


def show_standings(some):
    """A list of standings with blanks between, none as a dash."""
    return show_row([show_standing(standing) for standing in some])
