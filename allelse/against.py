"""Papers that say against one another."""

from allelse.rooms import number


def is_against(room, paper, second):
    """Whether the papers are against one another, this way round."""
    words = (paper[0], second[0])
    if words == ("better", "not"):
        return paper[1:3] == second[1:3]
    if words == ("better", "worths"):
        one, other = number(room, paper[1]), number(room, paper[2])
        return second[1][other] <= second[1][one]
    if words == ("best", "best"):
        return paper[1] == second[1] and paper[2] != second[2]
    return words == ("ring", "worths")


def against(room, paper, second):
    """Whether two papers that are let by, for some book each, are against one another."""
    return is_against(room, paper, second) or is_against(room, second, paper)
