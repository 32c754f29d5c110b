"""Rounds: lists of a few things, each of which leads to the next one, the last one to the first one."""


def round_of(leads):
    """A round of unlike things, by a dict that has for each thing those to which it leads, or None."""
    left = list(leads)
    within = leads_within(leads, left)
    # What leads to nothing that is left is on no round, so only what leads on and on stays.
    while len(within) < len(left):
        left = list(within)
        within = leads_within(leads, left)
    if not left:
        return None
    row = []
    here = left[0]
    while here not in row:
        row.append(here)
        here = within[here][0]
    # What lies ahead of the first thing met again is no part of the round.
    return row[row.index(here):]


def leads_within(leads, left):
    """Of each thing that is left and leads to such, those to which it does."""
    told = {here: [there for there in leads[here] if there in left] for here in left}
    return {here: told[here] for here in left if told[here]}
