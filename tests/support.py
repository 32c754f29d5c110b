"""What the tests share: odd things, spoilt forms of right ones, and rooms and books to ask about."""

import copy
import itertools
import random

from allelse.errors import WishError

PLAIN = (tuple, list, int, bool, str, type(None))
GREAT = 10 ** 30 - 1


def nested(kind, depth):
    """One thing within another one, depth times."""
    thing = kind()
    for _ in range(depth - 1):
        thing = kind([thing])
    return thing


def odd_things():
    """Things of every kind that may be handed in where anything may."""
    return [
        None, True, False, 0, 1, 2, -1, GREAT, -GREAT, "", "0", "01", "a" * 1000,
        (), [], {}, (None,), [None], {None: None}, {0: 0}, {0: 1, 1: 0}, {(): ()},
        ((),), [()], ([],), [[]], ({},), [{}], ("",), [""], ((0, 0),), [(0, 0)], [[0, 0]],
        (0,), (1,), (2,), [2], (True,), (False,), (-1,), (GREAT,), (0, 1), [0, 1], (0, 0), (True, False),
        (0,) * 9, (0,) * 40000, [0] * 40000, [(0, 0)] * 15000, ((0, 0),) * 15000,
        nested(tuple, 40), nested(list, 40), (nested(tuple, 39), 1), [nested(list, 39), 1],
        ((), 0, 0, 1), [(), 0, 0, 1], (((), 0, 0, 1),), [((), 0, 0, 1)], ((0, 1), (0, 1)),
    ]


def swaps(thing):
    """Things that may stand in the place of this one, some of which Python calls equal to it."""
    told = [None, True, False, "", "0", (), [], {}, -1, GREAT, -GREAT]
    if type(thing) is int:
        told += [thing - 1, thing + 1, bool(thing), str(thing), (thing,), [thing]]
    if type(thing) is tuple:
        told += [list(thing), dict(enumerate(thing)), (thing,), thing + (0,), (0,) + thing, str(thing)]
        told += [thing + thing, thing[::-1]]
    if type(thing) is list:
        told += [tuple(thing), dict(enumerate(thing)), [thing], thing + [0], [0] + thing, str(thing)]
        told += [thing + thing, thing[::-1]]
    return told


def spoilt(thing):
    """Forms of a thing with one place of it changed, left out or put in twice."""
    told = swaps(thing)
    if type(thing) not in (tuple, list):
        return told
    kind = type(thing)
    for at, part in enumerate(thing):
        before, after = list(thing[:at]), list(thing[at + 1:])
        told.append(kind(before + after))
        told.append(kind(before + [part, part] + after))
        told += [kind(before + [other] + after) for other in spoilt(part)]
    return told


def spoil(thing):
    """Change each list and dict within a told thing, the thing itself too."""
    if type(thing) in (tuple, list):
        for part in thing:
            spoil(part)
    if type(thing) is list:
        thing.reverse()
        thing.append("spoilt")
        del thing[0]
    if type(thing) is dict:
        thing.clear()


def is_plain(thing):
    """Whether a told thing is of Python's own kinds all through."""
    if type(thing) not in PLAIN:
        return False
    if type(thing) in (tuple, list):
        return all(is_plain(part) for part in thing)
    return True


def check_told(case, ask, *handed):
    """Ask twice with the first answer spoilt between; what is handed in stays, and what is told is plain."""
    before = copy.deepcopy(handed)
    first = ask(*handed)
    case.assertTrue(is_plain(first), first)
    kept = copy.deepcopy(first)
    spoil(first)
    second = ask(*handed)
    case.assertEqual(second, kept)
    case.assertEqual(repr(second), repr(kept))
    case.assertEqual(repr(handed), repr(before))
    return second


def check_truth(case, wanted, ask, *handed):
    """The answer is the truth that is wanted, no other thing that counts as it, and nothing is changed."""
    before = repr(handed)
    case.assertIs(ask(*handed), wanted, handed)
    case.assertEqual(repr(handed), before)


def refusal(case, ask, *handed):
    """The error with which what is asked is refused; nothing that is handed in is changed."""
    before = repr(handed)
    with case.assertRaises(WishError) as caught:
        ask(*handed)
    case.assertEqual(repr(handed), before)
    return caught.exception


def all_rooms():
    """Every room there is."""
    told = []
    for many in range(1, 9):
        for room in itertools.product((2, 3, 4), repeat=many):
            size = 1
            for worths in room:
                size *= worths
            if size <= 256:
                told.append(room)
    return told


def all_standings(room):
    """Every standing of the room, rising."""
    return list(itertools.product(*[range(worths) for worths in room]))


def all_givens(room):
    """Every given of the room."""
    told = []
    for row in itertools.product(*[[None] + list(range(worths)) for worths in room]):
        told.append(tuple((box, worth) for box, worth in enumerate(row) if worth is not None))
    return told


def all_wishes(room):
    """Every wish of the room."""
    told = []
    for given in all_givens(room):
        for box in set(range(len(room))) - {box for box, worth in given}:
            for better, worse in itertools.permutations(range(room[box]), 2):
                told.append((given, box, better, worse))
    return sorted(told)


def some_books(room, many, most, seed):
    """So many books of the room, of none to most wishes, always the same ones."""
    chance = random.Random(seed)
    wishes = all_wishes(room)
    return [tuple(chance.choice(wishes) for _ in range(chance.randint(0, most))) for _ in range(many)]


def full_given(standing, box):
    """The given that tells all boxes but this one as they are."""
    return tuple((other, worth) for other, worth in enumerate(standing) if other != box)


def unlike_at(one, other):
    """The boxes at which two standings are unlike."""
    return [box for box in range(len(one)) if one[box] != other[box]]


def step_wish(one, other):
    """The wish that betters one to other, which are unlike at one box, and nothing else."""
    (box,) = unlike_at(one, other)
    return (full_given(one, box), box, other[box], one[box])


def row_book(row):
    """A book that betters each of a row of standings to the next one, and nothing else."""
    return tuple(step_wish(one, other) for one, other in zip(row, row[1:]))


def snake(room):
    """All standings of the room in a row, each unlike the next one at one box."""
    rows = [()]
    for worths in room:
        there = list(range(worths))
        rows = [row + (worth,) for at, row in enumerate(rows) for worth in (there if at % 2 == 0 else there[::-1])]
    return rows


def plain_steps(room, book):
    """Of each standing all that it is bettered to, with the first wish that does it, pair by pair."""
    leads = {}
    for one in all_standings(room):
        leads[one] = {}
        for other in all_standings(room):
            for at, (given, box, better, worse) in enumerate(book):
                wanted = list(one)
                wanted[box] = better
                kept = all(one[told] == worth for told, worth in given)
                if kept and one[box] == worse and tuple(wanted) == other and other not in leads[one]:
                    leads[one][other] = at
    return leads


def not_held(leads, held):
    """The steps of plain_steps at boxes that aren't held."""
    return {one: [other for other in leads[one] if unlike_at(one, other)[0] not in held] for one in leads}


def plain_better(leads):
    """Of each standing all that are better than it, by putting steps together till nothing more comes."""
    better = {one: set(leads[one]) for one in leads}
    for middle in leads:
        for one in leads:
            if middle in better[one]:
                better[one] |= better[middle]
    return better


def shortest_ways(leads, one, other):
    """All ways of two standings or more from one to other than which none is shorter; there must be one."""
    ways = [[one]]
    while True:
        ways = [way + [there] for way in ways for there in leads[way[-1]]]
        found = [way for way in ways if way[-1] == other]
        if found:
            return found


def longest_into(leads, standing):
    """How many steps the longest way has that ends in the standing, where there is no ring."""
    return max([0] + [longest_into(leads, one) + 1 for one in leads if standing in leads[one]])


def all_held(room):
    """Every rising tuple of boxes."""
    boxes = range(len(room))
    return [held for many in range(len(room) + 1) for held in itertools.combinations(boxes, many)]


def put(standing, box, worth):
    """The standing with this worth at this box."""
    row = list(standing)
    row[box] = worth
    return tuple(row)


def plain_pairs(room, leads):
    """Of each standing the local pairs of each box, said by the steps."""
    told = {}
    for standing in leads:
        told[standing] = []
        for box, worths in enumerate(room):
            rows = itertools.product(range(worths), repeat=2)
            pairs = [(worse, better) for worse, better in rows
                     if put(standing, box, better) in leads[put(standing, box, worse)]]
            told[standing].append(pairs)
    return told


def plain_hangs(room, pairs):
    """What hangs on what, said by the local pairs at each two standings unlike at one box."""
    told = []
    for box, other in itertools.product(range(len(room)), repeat=2):
        unlike = [(here, there) for here in pairs for there in pairs if unlike_at(here, there) == [other]]
        if [None for here, there in unlike if pairs[here][box] != pairs[there][box]]:
            told.append((box, other))
    return told


def plain_order(room, hanging):
    """The order of boxes, said by what hangs on what, or None."""
    left, row = list(range(len(room))), []
    while left:
        can = [box for box in left if not [other for other in left if (box, other) in hanging]]
        if not can:
            return None
        row.append(min(can))
        left.remove(min(can))
    return row


def right_round(row, pairs):
    """Whether a list is one of two or more unlike things, each two that follow, and the last and the first, pairs."""
    if type(row) is not list or len(row) < 2 or len(set(row)) != len(row):
        return False
    return all((here, row[(at + 1) % len(row)]) in pairs for at, here in enumerate(row))


def has_round(pairs):
    """Whether tuples (from, to) go round, by taking those away that lead to nothing."""
    left = list(pairs)
    while True:
        stay = [pair for pair in left if [other for other in left if other[0] == pair[1]]]
        if len(stay) == len(left):
            return bool(left)
        left = stay


def chance_pairs(chance, worths):
    """Tuples (worse, better) that go nowhere round and have one top."""
    row = list(range(worths))
    chance.shuffle(row)
    told = {(row[at], row[chance.randrange(at)]) for at in range(1, worths)}
    more = [(row[at], row[to]) for at in range(worths) for to in range(at)]
    return sorted(told | {pair for pair in more if chance.random() < 0.3})


def rising(room):
    """A settled book by which each box goes up step by step."""
    return tuple(((), box, worth + 1, worth) for box, worths in enumerate(room) for worth in range(worths - 1))


def plain_wishes(room, chance, most):
    """The wishes of a plain book, of a chance's making; each box looks at most at so many others."""
    row = list(range(len(room)))
    chance.shuffle(row)
    wishes = []
    for at, box in enumerate(row):
        asked = sorted(chance.sample(row[:at], chance.randint(0, min(at, most))))
        for worths in itertools.product(*[range(room[other]) for other in asked]):
            given = tuple(zip(asked, worths))
            for worse, better in chance_pairs(chance, room[box]):
                wishes.append((given, box, better, worse))
    return wishes


def plain_books(room, many, seed, most=2):
    """So many plain books of the room, always the same ones."""
    chance = random.Random(seed)
    told = []
    for _ in range(many):
        wishes = plain_wishes(room, chance, most)
        wishes += chance.sample(wishes, min(3, len(wishes)))
        chance.shuffle(wishes)
        told.append(tuple(wishes))
    return told


def settled_book(room, chance, most=3):
    """A settled book, of a chance's making; some of its wishes are said in parts, or twice, or tell too much."""
    wishes = plain_wishes(room, chance, most)
    for given, box, better, worse in list(wishes)[:20]:
        free = [other for other in range(len(room)) if other != box and other not in dict(given)]
        if free and chance.random() < 0.3:
            other = chance.choice(free)
            wishes.remove((given, box, better, worse))
            told = [tuple(sorted(given + ((other, worth),))) for worth in range(room[other])]
            wishes += [(more, box, better, worse) for more in told]
    wishes += [wish for wish in wishes[:20] if chance.random() < 0.1]
    chance.shuffle(wishes)
    return tuple(wishes)


def settled_books(room, many, seed):
    """So many settled books of the room, always the same ones."""
    chance = random.Random(seed)
    return [settled_book(room, chance) for _ in range(many)]


def is_kept(standing, given):
    """Whether a standing keeps a given."""
    return all(standing[box] == worth for box, worth in given)


def kept(room, given):
    """All standings that keep the given, rising."""
    return [standing for standing in all_standings(room) if is_kept(standing, given)]


def first_parting(room, book, second):
    """What is told of two books that are parted, or None, said by the steps."""
    leads = [plain_steps(room, book), plain_steps(room, second)]
    better = [plain_better(leads[0]), plain_better(leads[1])]
    for one, other in itertools.product(all_standings(room), repeat=2):
        is_by = [other in better[0][one], other in better[1][one]]
        if is_by[0] != is_by[1]:
            which = is_by.index(True)
            way = min(shortest_ways(leads[which], one, other))
            return ("parts", which, one, other, way, sorted(better[1 - which][one] | {one}))
    return None


def are_alike(room, book, second):
    """Whether two books are alike, said by the steps."""
    return plain_better(plain_steps(room, book)) == plain_better(plain_steps(room, second))


def plain_grounds(leads, box, better, worse):
    """The grounds, said by the steps."""
    return sorted(one for one in leads if one[box] == worse and put(one, box, better) in leads[one])


def givens_without(room, box):
    """Every given of the room without the box."""
    return [given for given in all_givens(room) if box not in dict(given)]


def plain_lies(room, some, box, worse, given):
    """Whether a given lies in grounds."""
    return all(standing in some for standing in kept(room, given) if standing[box] == worse)


def plain_wide(room, some, box, worse):
    """All givens that are wide for grounds, rising."""
    lying = [given for given in givens_without(room, box) if plain_lies(room, some, box, worse, given)]
    return sorted(
        given for given in lying
        if not [one for one in given if tuple(other for other in given if other != one) in lying]
    )


def grounds_book(some, box, better):
    """A book by which these standings are bettered at the box, and nothing else."""
    return tuple((full_given(ground, box), box, better, ground[box]) for ground in some)


def made_tree(wide, still, m, pick):
    """A tree for the grounds still open, by a pick of one of them."""
    ground = pick(still)
    if m == 0:
        return (ground, [])
    tries = []
    for given in [given for given in wide if is_kept(ground, given)]:
        tries.append((given, made_tree(wide, [one for one in still if not is_kept(one, given)], m - 1, pick)))
    return (ground, tries)


def right_tree(wide, still, m, thing):
    """Whether a thing is a tree for the grounds still open and m, by all wide givens."""
    if type(thing) is not tuple or len(thing) != 2 or type(thing[1]) is not list:
        return False
    if repr(thing[0]) not in [repr(one) for one in still]:
        return False
    givens = [given for given in wide if is_kept(thing[0], given)] if m != 0 else []
    if len(thing[1]) != len(givens):
        return False
    for given, tried in zip(givens, thing[1]):
        if type(tried) is not tuple or len(tried) != 2 or repr(tried[0]) != repr(given):
            return False
        if not right_tree(wide, [one for one in still if not is_kept(one, given)], m - 1, tried[1]):
            return False
    return True


def least_many(still, wide):
    """How many givens a least cover of the grounds has, trying ever more of them."""
    many = 0
    while True:
        for some in itertools.combinations(wide, many):
            if all([given for given in some if is_kept(one, given)] for one in still):
                return many
        many += 1


def right_way(room, leads, one, other, thing):
    """Whether a thing is a way, said by the steps that are let alone."""
    if type(thing) is not list or len(thing) < 2:
        return False
    right = [repr(standing) for standing in all_standings(room)]
    if [part for part in thing if repr(part) not in right]:
        return False
    steps = all(there in leads[here] for here, there in zip(thing, thing[1:]))
    return steps and thing[0] == one and thing[-1] == other


def right_shut(room, leads, one, other, thing):
    """Whether a thing is a shut set, said by the steps that are let alone."""
    if type(thing) is not list:
        return False
    right = [repr(standing) for standing in all_standings(room)]
    if [part for part in thing if repr(part) not in right]:
        return False
    rising = all(here < there for here, there in zip(thing, thing[1:]))
    led_to = [there for here in thing for there in leads[here]]
    return rising and one in thing and other not in led_to and all(there in thing for there in led_to)


def right_ring(room, leads, thing):
    """Whether a thing is a ring, said by the steps."""
    if type(thing) is not list or len(thing) < 2:
        return False
    right = [repr(standing) for standing in all_standings(room)]
    if [part for part in thing if repr(part) not in right]:
        return False
    unlike = all(thing.count(part) == 1 for part in thing)
    return unlike and all(thing[(at + 1) % len(thing)] in leads[here] for at, here in enumerate(thing))


def right_worths(leads, thing):
    """Whether a thing is worths, said by the steps."""
    if type(thing) is not tuple or len(thing) != len(leads) or [part for part in thing if type(part) is not int]:
        return False
    worth = dict(zip(sorted(leads), thing))
    return all(worth[one] < worth[other] for one in leads for other in leads[one])
