import copy
import random
import unittest

from samples import (
    ASUNDER, IN_PIECES, LADDER, NO_PLACES, NO_ROWS, ODD, SQUARE, TRIPLE, WEBS_LISTS, Spiteful, bare, check_kinds,
    check_no_web, check_no_webs, full, lists_in, many_ties, path, petersen, ring, star,
)
from webtimes.counts import by_distance, far
from webtimes.errors import Apart, NoDeed, NoPlace, NoWeb, TooBig
from webtimes.keeper import Keeper
from webtimes.keeping import primes_of
from webtimes.rows import places_of, rows_beside, rows_tied, ties_of
from webtimes.texts import show_webs

METHODS = [
    "put", "take", "flip", "go", "undo", "webs", "stand", "places", "ties", "far_from", "beside", "by_distance",
    "primes", "__eq__", "__len__", "__repr__", "__str__",
]


def state(keeper):
    return copy.deepcopy((keeper.webs(), keeper.stand()))


def check_state(case, keeper, webs, row):
    check_kinds(case, (keeper.webs(), keeper.stand()), (webs, row))
    check_kinds(case, len(keeper), len(webs))
    check_kinds(case, (keeper.places(), keeper.ties()), (places_of(webs), ties_of(webs)))
    check_kinds(case, repr(keeper), "Keeper: " + show_webs(webs))
    case.assertIs(bool(keeper), webs != [])


def states_undone(keeper):
    """What a copy of the keeper comes to by one undo after another."""
    one = copy.deepcopy(keeper)
    states = []
    try:
        while True:
            one.undo()
            states.append(state(one))
    except NoDeed:
        return states


def check_refused(case, keeper, error, deed, *args):
    """The deed is refused, and nothing is changed, nor what there is to undo."""
    ahead, undone = state(keeper), states_undone(keeper)
    with case.assertRaises(error):
        deed(*args)
    case.assertEqual((state(keeper), states_undone(keeper)), (ahead, undone))


class Made(unittest.TestCase):
    def test_told(self):
        for webs in WEBS_LISTS:
            check_state(self, Keeper(webs), webs, [0] * len(webs))

    def test_no_webs(self):
        keeper = Keeper([])
        check_state(self, keeper, [], [])
        check_kinds(self, (keeper.places(), keeper.ties()), (1, 0))
        check_kinds(self, (keeper.beside(), keeper.by_distance(), keeper.primes()), ([], [1], []))
        check_kinds(self, keeper.far_from([]), 0)
        self.assertEqual(repr(keeper), "Keeper: none")
        self.assertIs(bool(keeper), False)

    def test_refusals(self):
        check_no_webs(self, Keeper)

    def test_by_name(self):
        keeper = Keeper(webs=[path(2)])
        keeper.put(number=0, web=ring(3))
        self.assertEqual(keeper.webs(), [ring(3), path(2)])
        self.assertIs(keeper.flip(number=0, one=2, other=0), False)
        keeper.go(row=[1, 0])
        self.assertEqual(keeper.far_from(row=[1, 1]), 1)
        self.assertEqual(keeper.take(number=1), path(2))

    def test_it_keeps_copies(self):
        webs = [path(3), ring(4)]
        keeper = Keeper(webs)
        web = path(2)
        keeper.put(1, web)
        row = [0, 1, 0]
        keeper.go(row)
        for part in lists_in([webs, web, row]):
            part.clear()
        check_state(self, keeper, [path(3), path(2), ring(4)], [0, 1, 0])
        twice = path(2)
        keeper = Keeper([twice, twice])
        keeper.flip(0, 0, 1)
        self.assertEqual((keeper.webs(), twice), ([bare(2), path(2)], path(2)))

    def test_each_method_is_its_own(self):
        for name in METHODS:
            self.assertIn(name, vars(Keeper))


class AsAnObject(unittest.TestCase):
    def test_equal(self):
        one, other = Keeper([path(3), path(2)]), Keeper([path(3), path(2)])
        self.assertIs(one == other, True)
        self.assertIs(one != other, False)
        one.go([1, 0])
        self.assertIs(one == other, False)
        self.assertIs(one != other, True)
        other.go([0, 1])
        self.assertIs(one == other, False)
        # On the same row, by other deeds and with others to undo.
        other.go([1, 1])
        other.go([1, 0])
        self.assertIs(one == other, True)
        other.undo()
        self.assertIs(one == other, False)
        self.assertIs(Keeper([path(3), path(2)]) == Keeper([path(2), path(3)]), False)
        self.assertIs(Keeper([path(3)]) == Keeper([star(3)]), False)
        self.assertIs(Keeper([path(3)]) == Keeper([path(3), bare(1)]), False)
        self.assertIs(Keeper([]) == Keeper([]), True)

    def test_equal_beside_anything(self):
        for keeper in (Keeper([]), Keeper([path(2)])):
            for thing in [thing for thing in ODD if not isinstance(thing, Spiteful)] + [[path(2)], repr(keeper)]:
                self.assertIs(keeper == thing, False)
                self.assertIs(keeper != thing, True)
            self.assertIs(keeper.__eq__(Spiteful()), False)

    def test_repr_and_str(self):
        for webs in WEBS_LISTS:
            keeper = Keeper(webs)
            for text in (repr(keeper), str(keeper), f"{keeper}"):
                self.assertEqual(text, "Keeper: " + show_webs(webs))
        self.assertEqual(repr(Keeper([SQUARE, bare(1)])), "Keeper: 4 0-1 0-2 1-3 2-3 * 1")


class Put(unittest.TestCase):
    def test_told(self):
        keeper = Keeper([path(3), path(2)])
        keeper.go([1, 0])
        keeper.go([1, 1])
        self.assertIsNone(keeper.put(1, ring(3)))
        check_state(self, keeper, [path(3), ring(3), path(2)], [1, 0, 1])
        keeper.put(3, full(4))
        check_state(self, keeper, [path(3), ring(3), path(2), full(4)], [1, 0, 1, 0])
        keeper.put(0, bare(1))
        check_state(self, keeper, [bare(1), path(3), ring(3), path(2), full(4)], [0, 1, 0, 1, 0])
        for _ in range(3):
            keeper.undo()
        check_state(self, keeper, [path(3), path(2)], [1, 1])
        empty = Keeper([])
        empty.put(0, IN_PIECES)
        check_state(self, empty, [IN_PIECES], [0])

    def test_refusals(self):
        keeper = Keeper([path(2), path(3)])
        keeper.go([1, 0])
        check_no_web(self, lambda web: keeper.put(0, web))
        check_no_web(self, lambda web: keeper.put(None, web))
        for thing in [thing for thing in NO_PLACES if not (isinstance(thing, int) and thing == 2)] + [3, -1]:
            check_refused(self, keeper, NoPlace, keeper.put, thing, path(2))
        check_refused(self, keeper, NoWeb, keeper.put, 7, (2, [(1, 0)]))
        empty = Keeper([])
        check_refused(self, empty, NoPlace, empty.put, 1, path(2))

    def test_twelve(self):
        keeper = Keeper([path(2)] * 11)
        keeper.put(11, path(3))
        self.assertEqual(len(keeper), 12)
        for number in (0, 5, 12):
            check_refused(self, keeper, TooBig, keeper.put, number, path(2))
        for thing in (13, -1, True, None, "0", [0]):
            check_refused(self, keeper, NoPlace, keeper.put, thing, path(2))
        check_refused(self, keeper, NoWeb, keeper.put, 13, None)
        keeper.undo()
        self.assertEqual(len(keeper), 11)


class Take(unittest.TestCase):
    def test_told(self):
        keeper = Keeper([path(3), ring(4), path(2)])
        for row in ([1, 0, 0], [1, 3, 0], [1, 3, 1]):
            keeper.go(row)
        check_kinds(self, keeper.take(1), ring(4))
        check_state(self, keeper, [path(3), path(2)], [1, 1])
        check_kinds(self, keeper.take(1), path(2))
        check_kinds(self, keeper.take(0), path(3))
        check_state(self, keeper, [], [])
        keeper.undo()
        check_state(self, keeper, [path(3)], [1])
        keeper.undo()
        keeper.undo()
        check_state(self, keeper, [path(3), ring(4), path(2)], [1, 3, 1])

    def test_what_is_told_is_the_asker_s(self):
        keeper = Keeper([ring(4), path(2)])
        keeper.take(0)[1].clear()
        keeper.undo()
        check_state(self, keeper, [ring(4), path(2)], [0, 0])

    def test_refusals(self):
        keeper = Keeper([path(2), path(3)])
        keeper.go([1, 0])
        for thing in NO_PLACES:
            check_refused(self, keeper, NoPlace, keeper.take, thing)
        empty = Keeper([])
        for thing in (0, None, 1):
            check_refused(self, empty, NoPlace, empty.take, thing)


class Flip(unittest.TestCase):
    def test_told(self):
        keeper = Keeper([path(2), ring(4)])
        self.assertIs(keeper.flip(1, 2, 0), True)
        check_state(self, keeper, [path(2), (4, [(0, 1), (0, 2), (0, 3), (1, 2), (2, 3)])], [0, 0])
        self.assertIs(keeper.flip(1, 0, 2), False)
        check_state(self, keeper, [path(2), ring(4)], [0, 0])
        self.assertIs(keeper.flip(0, 1, 0), False)
        check_state(self, keeper, [bare(2), ring(4)], [0, 0])
        self.assertIs(keeper.flip(0, 1, 0), True)
        for _ in range(2):
            keeper.undo()
        check_state(self, keeper, [path(2), ring(4)], [0, 0])
        self.assertIs(keeper.flip(1, 1, 3), True)
        keeper.undo()
        keeper.undo()
        check_state(self, keeper, [path(2), (4, [(0, 1), (0, 2), (0, 3), (1, 2), (2, 3)])], [0, 0])

    def test_the_row_stays(self):
        keeper = Keeper([path(3), path(2)])
        keeper.go([1, 0])
        keeper.flip(0, 0, 1)
        check_state(self, keeper, [(3, [(1, 2)]), path(2)], [1, 0])

    def test_all_ties_of_a_web(self):
        keeper = Keeper([bare(5)])
        pairs = full(5)[1]
        for k, (one, other) in enumerate(sorted(pairs, key=lambda tie: (tie[1] * 3 + tie[0]) % 7)):
            self.assertIs(keeper.flip(0, *((one, other) if k % 2 else (other, one))), True)
        check_state(self, keeper, [full(5)], [0])
        for one, other in pairs[::2]:
            self.assertIs(keeper.flip(0, one, other), False)
        check_state(self, keeper, [(5, pairs[1::2])], [0])

    def test_120_ties(self):
        keeper = Keeper([path(2), many_ties()])
        check_refused(self, keeper, TooBig, keeper.flip, 1, 0, 20)
        check_refused(self, keeper, TooBig, keeper.flip, 1, 20, 0)
        check_refused(self, keeper, NoPlace, keeper.flip, 1, 20, 20)
        check_refused(self, keeper, NoPlace, keeper.flip, 1, 20, 40)
        # One that goes leaves room for one that comes.
        self.assertIs(keeper.flip(1, 0, 1), False)
        self.assertIs(keeper.flip(1, 20, 0), True)
        check_refused(self, keeper, TooBig, keeper.flip, 1, 0, 1)

    def test_refusals(self):
        keeper = Keeper([path(2), path(3)])
        keeper.go([1, 0])
        for thing in NO_PLACES:
            check_refused(self, keeper, NoPlace, keeper.flip, thing, 0, 1)
            check_refused(self, keeper, NoPlace, keeper.flip, 0, thing, 1)
            check_refused(self, keeper, NoPlace, keeper.flip, 0, 0, thing)
        for place in range(2):
            check_refused(self, keeper, NoPlace, keeper.flip, 0, place, place)
        check_refused(self, keeper, NoPlace, keeper.flip, 1, 0, 3)
        empty = Keeper([])
        check_refused(self, empty, NoPlace, empty.flip, 0, 0, 1)


class Go(unittest.TestCase):
    def test_to_all_rows_beside(self):
        for webs in ([path(3), ring(4)], [IN_PIECES, path(2)], [full(4)], [bare(2), path(2)]):
            keeper = Keeper(webs)
            for row in rows_beside(webs, [0] * len(webs)):
                self.assertIsNone(keeper.go(row))
                check_state(self, keeper, webs, row)
                keeper.undo()
                check_state(self, keeper, webs, [0] * len(webs))

    def test_refusals(self):
        keeper = Keeper(TRIPLE)
        keeper.go([1, 0, 0])
        rows = [[1, 0, 0], [2, 0, 1], [0, 0, 1], [1, 0, 2], (0, 0, 0), (2, 0, 0)]
        for thing in rows + NO_ROWS + ODD:
            check_refused(self, keeper, NoPlace, keeper.go, thing)
        empty = Keeper([])
        for thing in ([], [0], None, ()):
            check_refused(self, empty, NoPlace, empty.go, thing)
        for thing in ([0, 1], [1, 0]):
            apart = Keeper([bare(2), bare(2)])
            check_refused(self, apart, NoPlace, apart.go, thing)


class Undo(unittest.TestCase):
    def test_nothing_to_undo(self):
        for webs in WEBS_LISTS:
            with self.assertRaises(NoDeed):
                Keeper(webs).undo()
        keeper = Keeper([path(2)])
        keeper.go([1])
        self.assertIsNone(keeper.undo())
        for _ in range(2):
            check_refused(self, keeper, NoDeed, keeper.undo)
        keeper.go([1])
        keeper.undo()
        check_refused(self, keeper, NoDeed, keeper.undo)

    def test_a_deed_behind_an_undone_one(self):
        keeper = Keeper([path(3)])
        keeper.go([1])
        keeper.go([2])
        keeper.undo()
        keeper.go([0])
        keeper.undo()
        check_state(self, keeper, [path(3)], [1])
        keeper.undo()
        check_state(self, keeper, [path(3)], [0])
        check_refused(self, keeper, NoDeed, keeper.undo)

    def test_some_hundred_deeds(self):
        keeper = Keeper([ring(5)])
        for k in range(1, 400):
            keeper.go([k % 5])
        for k in range(398, -1, -1):
            keeper.undo()
            self.assertEqual(keeper.stand(), [k % 5])


class Told(unittest.TestCase):
    def test_from_the_row_on_which_it_stands(self):
        chance = random.Random(1)
        for webs in WEBS_LISTS + [TRIPLE, [path(40)] * 12]:
            keeper = Keeper(webs)
            for _ in range(6):
                row = keeper.stand()
                check_kinds(self, keeper.beside(), rows_beside(webs, row))
                check_kinds(self, keeper.by_distance(), by_distance(webs, row))
                for _ in range(4):
                    other = [chance.randrange(many) for many, _ in webs]
                    check_kinds(self, keeper.far_from(other), far(webs, row, other))
                if keeper.beside():
                    keeper.go(chance.choice(keeper.beside()))

    def test_primes(self):
        keeper = Keeper([LADDER, bare(1), petersen()])
        check_kinds(self, keeper.primes(), primes_of([LADDER, bare(1), petersen()]))
        keeper.flip(0, 0, 1)
        check_kinds(self, keeper.primes(), primes_of([(6, LADDER[1][1:]), petersen()]))
        for web in ASUNDER:
            for webs in ([web], [path(2), web], [web, path(2)]):
                apart = Keeper(webs)
                check_refused(self, apart, Apart, apart.primes)

    def test_far_from_refusals(self):
        keeper = Keeper(TRIPLE)
        for thing in NO_ROWS + ODD:
            check_refused(self, keeper, NoPlace, keeper.far_from, thing)
        empty = Keeper([])
        check_refused(self, empty, NoPlace, empty.far_from, [0])
        self.assertIsNone(Keeper([bare(2), path(2)]).far_from([1, 0]))

    def test_no_list_that_is_told_is_its_own(self):
        keeper = Keeper([LADDER, path(3), LADDER])
        keeper.go([1, 0, 0])
        keeper.flip(1, 0, 2)
        ahead = state(keeper)
        for ask in (keeper.webs, keeper.stand, keeper.beside, keeper.by_distance, keeper.primes):
            told = ask()
            kept = copy.deepcopy(told)
            parts = lists_in(told)
            self.assertEqual(len({id(part) for part in parts}), len(parts))
            for part in parts:
                part.append("spoiled")
            check_kinds(self, ask(), kept)
            self.assertEqual(state(keeper), ahead)
        keeper.undo()
        keeper.undo()
        check_state(self, keeper, [LADDER, path(3), LADDER], [0, 0, 0])


class ManyDeeds(unittest.TestCase):
    def deed(self, chance, keeper, webs, row):
        """A deed at random, done to the keeper and told in plain lists; some are refused."""
        word = chance.choice(["put", "take", "flip", "flip", "go", "go", "go"])
        number = chance.randrange(-1, len(webs) + 2)
        if word == "put":
            web = chance.choice([path(2), path(3), ring(4), bare(1), bare(3)])
            if not 0 <= number <= len(webs) or len(webs) == 12:
                return None, lambda: keeper.put(number, web)
            keeper.put(number, web)
            return (webs[:number] + [web] + webs[number:], row[:number] + [0] + row[number:]), None
        if word == "take":
            if not 0 <= number < len(webs):
                return None, lambda: keeper.take(number)
            check_kinds(self, keeper.take(number), webs[number])
            return (webs[:number] + webs[number + 1:], row[:number] + row[number + 1:]), None
        if word == "flip":
            one, other = chance.randrange(4), chance.randrange(4)
            if not 0 <= number < len(webs) or max(one, other) >= webs[number][0] or one == other:
                return None, lambda: keeper.flip(number, one, other)
            tie = (min(one, other), max(one, other))
            tied = tie not in webs[number][1]
            self.assertIs(keeper.flip(number, one, other), tied)
            web = (webs[number][0], sorted(set(webs[number][1]) ^ {tie}))
            return (webs[:number] + [web] + webs[number + 1:], row), None
        to = [chance.randrange(many) if chance.randrange(3) == 0 else place for (many, _), place in zip(webs, row)]
        if not rows_tied(webs, row, to):
            return None, lambda: keeper.go(to)
        keeper.go(to)
        return (webs, to), None

    def test_by_plain_lists(self):
        for seed in range(12):
            chance = random.Random(seed)
            keeper = Keeper([path(3), ring(4)])
            states = [([path(3), ring(4)], [0, 0])]
            for _ in range(150):
                if chance.randrange(4) == 0:
                    if len(states) == 1:
                        with self.assertRaises(NoDeed):
                            keeper.undo()
                    else:
                        states.pop()
                        keeper.undo()
                else:
                    ahead, refused = self.deed(chance, keeper, *copy.deepcopy(states[-1]))
                    if refused is not None:
                        with self.assertRaises((NoPlace, TooBig)):
                            refused()
                    else:
                        states.append(ahead)
                check_state(self, keeper, *states[-1])
            self.assertEqual(keeper.__eq__(Keeper(states[-1][0])), states[-1][1] == [0] * len(keeper))


if __name__ == "__main__":
    unittest.main()
