"""Webs, odd things and slow ways by the document's own words, for the tests."""

import copy
import itertools
import random


def full(many):
    return (many, list(itertools.combinations(range(many), 2)))


def path(many):
    return (many, [(k, k + 1) for k in range(many - 1)])


def ring(many):
    return (many, sorted([(k, k + 1) for k in range(many - 1)] + [(0, many - 1)]))


def bare(many):
    return (many, [])


def star(many):
    return (many, [(0, k) for k in range(1, many)])


def from_pairs(many, pairs):
    return (many, sorted({(min(pair), max(pair)) for pair in pairs}))


def petersen():
    pairs = [(k, (k + 1) % 5) for k in range(5)] + [(k, k + 5) for k in range(5)]
    return from_pairs(10, pairs + [(5 + k, 5 + (k + 2) % 5) for k in range(5)])


def many_ties():
    """A web of 40 places and 120 ties that hangs together."""
    return from_pairs(40, [(k, (k + step) % 40) for k in range(40) for step in (1, 2, 3)])


# A triangle with a tail, two ties, a place alone: pieces of several kinds.
IN_PIECES = (8, [(0, 3), (0, 5), (2, 7), (3, 5), (4, 5)])

# The product of two ties, and of a path of three places and a tie.
SQUARE = (4, [(0, 1), (0, 2), (1, 3), (2, 3)])
LADDER = (6, [(0, 1), (0, 2), (1, 3), (2, 3), (2, 4), (3, 5), (4, 5)])

HANGING = [
    bare(1), path(2), path(3), path(5), ring(3), ring(4), ring(5), ring(6), full(4), full(5), star(5), star(6),
    petersen(), full(16), path(40), ring(40), many_ties(),
    (4, [(0, 1), (0, 2), (1, 2), (2, 3)]), (5, [(0, 1), (0, 3), (1, 2), (1, 4), (2, 3), (3, 4)]),
    SQUARE, LADDER,
]
ASUNDER = [bare(2), bare(40), (3, [(0, 1)]), (3, [(1, 2)]), IN_PIECES]
WEBS = HANGING + ASUNDER

PRIMES = [
    path(2), path(3), path(4), ring(3), ring(5), full(4), star(4), star(5), (4, [(0, 1), (0, 2), (1, 2), (2, 3)]),
]

# Webs that are prime or not, some alike, whose product is a web.
PRODUCTS = [
    [path(2)], [path(2), path(2)], [path(3), path(2)], [ring(3), ring(5)], [path(2), full(4), path(3)], [path(2)] * 5,
    [full(4), petersen()], [path(3), path(3), path(3)], [petersen(), path(2)], [path(2), path(3), path(2), path(3)],
    [PRIMES[-1], path(4)], [path(20), path(2)],
]

WEBS_LISTS = [
    [], [bare(1)], [path(2)], [bare(1), bare(1)], [path(3), path(2)], [path(2), path(3)], [ring(4), bare(1), path(2)],
    [IN_PIECES, path(3)], [bare(2), path(2)], [ring(3), bare(2), path(2)], [path(2)] * 5, [full(4), petersen()],
    [full(16)], [bare(1)] * 12, [path(2), bare(1), path(2), bare(1), path(2)], [path(3), ring(4), path(2)], [bare(40)],
]


class Spiteful:
    """A thing that may not be compared, counted or asked for its truth."""

    def __eq__(self, other):
        raise AssertionError("compared")

    def __bool__(self):
        raise AssertionError("asked for its truth")

    def __len__(self):
        raise AssertionError("counted")

    __hash__ = None


ODD = [
    None, True, False, -1, 41, 10 ** 40, 0.0, 1.0, 1.5, float("nan"), 1j, "", "0", "far", "corner", b"", b"\x00", (),
    [], {}, {0: 0}, set(), {0}, frozenset(), object(), int, len, range(2), Spiteful(), (0,), [0.0], [True], [None],
    ("far",), (0, 1, 2), [[]], ([], []), ((), ()), ([], [()]), ([], [[], []]), ([bare(1)], [[0]]), ("far", (0, 1)),
    [(0, 1)], Exception("x"), [Spiteful()], (Spiteful(), Spiteful()), (Spiteful(), Spiteful(), Spiteful()),
]

# What is no place of a web of two places, and no number of a row of webs that have two.
NO_PLACES = [thing for thing in ODD if not isinstance(thing, tuple)] + [2, 3, (0, 1), -2]

# Webs, and what is no row of them.
TRIPLE = [path(3), bare(1), ring(4)]
NO_ROWS = [
    [], [0], [0, 0], [0, 0, 0, 0], (0, 0, 0), [3, 0, 0], [-1, 0, 0], [0, 1, 0], [0, -1, 0], [0, 0, 4], [0, 0, -1],
    [True, 0, 0], [0, False, 0], [0, 0, True], [0, 0, 1.0], ["0", 0, 0], [0, 0, None], [[0], 0, 0], [[0, 0, 0]], 0,
    "000", {0: 0, 1: 0, 2: 0}, range(1), [0, 0, Spiteful()], [Spiteful(), 0, 0],
]

MANY_TIES_121 = list(itertools.combinations(range(17), 2))[:121]

# What is no web, by the part of its refusal.
NO_PAIRS = [thing for thing in ODD if not (isinstance(thing, tuple) and len(thing) == 2)] + [
    [2, []], (2,), (2, [], None), "ab", path(2) + ([],), {2: [], 3: []},
]
NO_MANY = [
    (0, []), (41, []), (-1, []), (True, []), (False, []), (1.0, []), ("2", []), (None, []), ([2], []), (0, None),
    (True, [None]), ([], []), (Spiteful(), []), ((0, 1), (1, 2)),
]
NO_TIES = [
    (2, None), (2, ()), (2, ((0, 1),)), (2, {}), (2, {(0, 1): 1}), (2, {(0, 1)}), (2, "01"), (2, 1), (2, True),
    (2, Spiteful()), (17, MANY_TIES_121), (2, [None] * 121), (1, [(0, 1)] * 500),
]
# Of three places, what is wrong as the first tie.
NO_FIRST_TIE = [
    None, 0, [0, 1], "01", (), (0,), (0, 1, 2), {0, 1}, (1, 0), (1, 1), (0, 3), (-1, 2), (-2, -1), (3, 4), (0, True),
    (False, 1), (0, 1.0), (0.0, 1), (0, "1"), (None, 1), (0, [1]), Spiteful(), (0, Spiteful()), (Spiteful(), 1),
]
# Ties of three places, with the number of the first wrong one.
NO_LATER_TIE = [
    ([(0, 1), (0, 2), (0, 1, 2)], 2), ([(0, 1), (2, 1)], 1), ([(0, 1), (1, 1)], 1), ([(0, 1), (0, 1)], 1),
    ([(0, 2), (0, 1)], 1), ([(1, 2), (0, 1)], 1), ([(1, 2), (0, 2)], 1), ([(0, 1), (0, 2), (1, 2), (1, 2)], 3),
    ([(0, 1), (1, 2), (0, 2)], 2), ([(0, 1), None, (0, 1)], 1), ([(0, 1), (0, 2), [1, 2]], 2),
]

# What is no web, with the part and the number of its refusal.
NO_WEBS = (
    [(thing, "web", None) for thing in NO_PAIRS]
    + [(thing, "places", None) for thing in NO_MANY]
    + [(thing, "ties", None) for thing in NO_TIES]
    + [((3, [tie]), "ties", 0) for tie in NO_FIRST_TIE]
    + [((3, ties), "ties", number) for ties, number in NO_LATER_TIE]
    + [((2, [None] * 120), "ties", 0), ((1, [(0, 1)]), "ties", 0)]
    + [((40, star(40)[1] + [(39, 40)]), "ties", 39)]
)

# What is no list of webs, with the number of its refusal.
NO_WEBS_LISTS = [(thing, None) for thing in ODD if not isinstance(thing, list)] + [
    (path(2), None), ((path(2), path(2)), None), ([path(2)] * 13, None), ([bare(1)] * 13, None), ([None] * 13, None),
    ({0: path(2)}, None), ([None], 0), ([[2, []]], 0), ([path(2), (0, [])], 1), ([path(2), path(2), 3, None], 2),
    ([(2, [(1, 0)]), path(2)], 0), ([bare(1)] * 11 + [(True, [])], 11), ([path(2), [path(2)]], 1), ([path(2), ()], 1),
]


def rows_by_order(webs):
    return [list(row) for row in itertools.product(*[range(many) for many, _ in webs])]


def tied_by_words(webs, one, other):
    unlike = [k for k in range(len(webs)) if one[k] != other[k]]
    if len(unlike) != 1:
        return False
    k = unlike[0]
    return tuple(sorted((one[k], other[k]))) in webs[k][1]


def product_by_words(webs):
    rows = rows_by_order(webs)
    pairs = itertools.combinations(range(len(rows)), 2)
    return (len(rows), [(a, b) for a, b in pairs if tied_by_words(webs, rows[a], rows[b])])


def table_by_words(web):
    many, ties = web
    far = [[0 if a == b else None for b in range(many)] for a in range(many)]
    for a, b in ties:
        far[a][b] = far[b][a] = 1
    for mid in range(many):
        for a in range(many):
            for b in range(many):
                if far[a][mid] is not None and far[mid][b] is not None:
                    if far[a][b] is None or far[a][mid] + far[mid][b] < far[a][b]:
                        far[a][b] = far[a][mid] + far[mid][b]
    return far


def called_anew(many, seed):
    """An order of the places by which they are called anew."""
    order = list(range(many))
    random.Random(seed).shuffle(order)
    return order


def turned(web, order):
    """The web in which place k is called order[k]."""
    return from_pairs(web[0], [(order[a], order[b]) for a, b in web[1]])


def turned_factoring(webs, seed):
    """A product of the webs with its places called anew, and the factoring of it by these webs."""
    rows = rows_by_order(webs)
    order = called_anew(len(rows), seed)
    new_rows = [None] * len(rows)
    for k, row in enumerate(rows):
        new_rows[order[k]] = row
    return turned(product_by_words(webs), order), (copy.deepcopy(webs), new_rows)


def led_to(ties, place):
    """The places to which these ties lead from the place, it too."""
    found = {place}
    ahead = None
    while found != ahead:
        ahead = set(found)
        found |= {one for one, other in ties if other in ahead} | {other for one, other in ties if one in ahead}
    return found


def is_naming_by_words(one, other, numbers):
    """Whether a list of whole numbers is a naming."""
    if len(numbers) != one[0] or sorted(numbers) != list(range(other[0])):
        return False
    pairs = itertools.combinations(range(one[0]), 2)
    return all((pair in one[1]) == (tuple(sorted([numbers[pair[0]], numbers[pair[1]]])) in other[1]) for pair in pairs)


def namings_by_words(one, other):
    """All namings between two small webs."""
    if one[0] != other[0]:
        return []
    orders = itertools.permutations(range(one[0]))
    return [list(order) for order in orders if is_naming_by_words(one, other, order)]


def near_sets(web):
    """For each place the set of those tied to it."""
    near = [set() for _ in range(web[0])]
    for one, other in web[1]:
        near[one].add(other)
        near[other].add(one)
    return near


def namings_by_search(one, other, start=0, end=None):
    """All namings between two webs that hang together, from place to place along the ties; from start to end alone."""
    near, far = near_sets(one), near_sets(other)
    order, parents = [start], {}
    for place in order:
        for beside in sorted(near[place] - set(order)):
            order.append(beside)
            parents[beside] = place

    def grown(names):
        if len(names) == len(order):
            yield [names[place] for place in range(one[0])]
            return
        place = order[len(names)]
        ends = range(other[0]) if end is None else [end]
        for to in sorted(far[names[parents[place]]]) if names else ends:
            fits = len(near[place]) == len(far[to]) and to not in names.values()
            if fits and all((there in near[place]) == (led in far[to]) for there, led in names.items()):
                yield from grown({**names, place: to})

    if one[0] == other[0] and len(one[1]) == len(other[1]):
        yield from grown({})


def exchanged_naming(webs, seed):
    """Two products of the webs, in two orders, all called anew, and a naming from the one to the other."""
    chance = random.Random(seed)
    order = called_anew(len(webs), chance.random())
    numbers = [called_anew(many, chance.random()) for many, _ in webs]
    others = [turned(webs[k], numbers[k]) for k in order]
    rows, other_rows = rows_by_order(webs), rows_by_order(others)
    places, other_places = called_anew(len(rows), chance.random()), called_anew(len(rows), chance.random())
    naming = [None] * len(rows)
    for at, row in enumerate(rows):
        led = [numbers[k][row[k]] for k in order]
        naming[places[at]] = other_places[other_rows.index(led)]
    return turned(product_by_words(webs), places), turned(product_by_words(others), other_places), naming


def lists_in(thing):
    """All lists within the thing, it too."""
    if isinstance(thing, (list, tuple)):
        found = [thing] if isinstance(thing, list) else []
        for part in thing:
            found.extend(lists_in(part))
        return found
    return []


def check_kinds(case, told, awaited):
    """Alike, and of the same kinds throughout: 1 is not True, a list no tuple."""
    case.assertEqual(told, awaited)
    case.assertEqual(repr(told), repr(awaited))


def check_fresh(case, function, *args):
    """Told alike twice, of new lists all apart; what is handed in stays as it was."""
    # A copy, as what is handed in is spoiled at the end.
    args = copy.deepcopy(args)
    ahead = copy.deepcopy(args)
    told = function(*args)
    kept = copy.deepcopy(told)
    case.assertEqual(args, ahead)
    case.assertEqual(repr(args), repr(ahead))
    told_lists = [id(part) for part in lists_in(told)]
    handed = [id(part) for part in lists_in(args)]
    case.assertEqual(len(told_lists), len(set(told_lists)))
    case.assertFalse(set(told_lists) & set(handed))
    for part in lists_in(told):
        part.append("spoiled")
    case.assertEqual(args, ahead)
    again = function(*args)
    check_kinds(case, again, kept)
    # What is done to the things handed in, behind the call, changes nothing told.
    for part in lists_in(args):
        part.clear()
    check_kinds(case, again, kept)
    return kept


def check_no_web(case, call):
    """The call refuses what is no web, whatever else is wrong, by part and number."""
    from webtimes.errors import NoWeb
    for thing, part, number in NO_WEBS:
        with case.assertRaises(NoWeb) as held:
            call(thing)
        case.assertEqual((held.exception.part, held.exception.number), (part, number), repr(thing)[:200])
        case.assertNotIsInstance(held.exception.number, bool)


def check_no_webs(case, call):
    """The call refuses what is no list of webs, whatever else is wrong, by number."""
    from webtimes.errors import NoWebs
    for thing, number in NO_WEBS_LISTS:
        with case.assertRaises(NoWebs) as held:
            call(thing)
        case.assertEqual(held.exception.number, number, repr(thing)[:200])
        case.assertNotIsInstance(held.exception.number, bool)
    for web, _, _ in NO_WEBS:
        with case.assertRaises(NoWebs) as held:
            call([path(2), web, None])
        case.assertEqual(held.exception.number, 1, repr(web)[:200])


def check_apart(case, call):
    """The call refuses webs in several pieces with Apart, whatever else is wrong."""
    from webtimes.errors import Apart
    for web in ASUNDER:
        with case.assertRaises(Apart):
            call(web)


def row_refusals(case, function, many):
    """The function of webs and so many rows of them refuses what are no webs, then what is no row."""
    from webtimes.errors import NoPlace
    check_no_webs(case, lambda webs: function(webs, *[None] * many))
    check_no_webs(case, lambda webs: function(webs, *[[0]] * many))
    for thing in NO_ROWS + ODD:
        for at in range(many):
            rows = [[0, 0, 0] for _ in range(many)]
            rows[at] = thing
            with case.assertRaises(NoPlace):
                function(TRIPLE, *rows)
        with case.assertRaises(NoPlace):
            function(TRIPLE, *[thing] * many)
    for thing in [thing for thing in ODD if not (isinstance(thing, list) and len(thing) == 0)] + [[0], [[]]]:
        with case.assertRaises(NoPlace):
            function([], *[[]] * (many - 1), thing)
