import itertools
import unittest

from samples import (
    IN_PIECES, LADDER, ODD, SQUARE, WEBS, Spiteful, bare, called_anew, check_fresh, check_kinds, check_no_web,
    exchanged_naming, full, is_naming_by_words, many_ties, namings_by_words, path, petersen, ring, star, turned,
)
from webtimes.errors import NoNaming, NoWeb
from webtimes.namings import behind, lets_naming, renumbered, turned_back
from webtimes.webs import look_at_web

THREES = [bare(3), (3, [(0, 1)]), (3, [(0, 2)]), (3, [(1, 2)]), path(3), star(3), (3, [(0, 2), (1, 2)]), full(3)]

# What isn't a list that has each of three places once.
NO_THREE = ODD + [
    [], [0], [0, 1], [0, 1, 2, 3], [0, 1, 2, 0], [0, 0, 1], [0, 1, 1], [2, 1, 2], [1, 1, 1], [1, 2, 3], [0, 1, 3],
    [-1, 0, 1], [0, 1, -1], [False, 1, 2], [0, True, 2], [0, 1, 2.0], [0.0, 1, 2], ["0", "1", "2"], [None, 0, 1],
    (0, 1, 2), "012", {0: 0, 1: 1, 2: 2}, {0, 1, 2}, range(3), [[0], [1], [2]], [[0, 1, 2]], ([0, 1, 2],),
    [Spiteful(), 1, 2], [0, 1, Spiteful()], [0, [1], 2], [0, (1,), 2], [0, {}, 2], [0, 1, 10 ** 40],
    [0, 1, 2, Spiteful()],
]


class LetsNaming(unittest.TestCase):
    def test_all_lists_of_small_webs(self):
        webs = THREES + [bare(1), bare(2), path(2)]
        for one, other in itertools.product(webs, webs):
            for thing in itertools.product(range(-1, 4), repeat=one[0]):
                self.assertIs(lets_naming(one, other, list(thing)), is_naming_by_words(one, other, thing))

    def test_all_orders_of_six_places(self):
        for one, other in [(LADDER, LADDER), (LADDER, turned(LADDER, [5, 0, 4, 2, 1, 3])), (LADDER, ring(6))]:
            for order in itertools.permutations(range(6)):
                self.assertIs(lets_naming(one, other, list(order)), is_naming_by_words(one, other, order))

    def test_webs_called_anew(self):
        for web in WEBS:
            for seed in (1, 2):
                order = called_anew(web[0], seed)
                other = turned(web, order)
                self.assertIs(lets_naming(web, other, order), True)
                self.assertIs(lets_naming(web, web, list(range(web[0]))), True)
                if web[0] > 1:
                    order[0], order[-1] = order[-1], order[0]
                    self.assertIs(lets_naming(web, other, order), is_naming_by_words(web, other, order))

    def test_a_tie_more_or_less(self):
        web = many_ties()
        less = (40, web[1][:-1])
        order = list(range(40))
        self.assertIs(lets_naming(web, less, order), False)
        self.assertIs(lets_naming(less, web, order), False)
        self.assertIs(lets_naming(bare(3), path(3), [0, 1, 2]), False)
        self.assertIs(lets_naming(path(3), bare(3), [0, 1, 2]), False)

    def test_another_number_of_places(self):
        self.assertIs(lets_naming(bare(2), bare(3), [0, 1]), False)
        self.assertIs(lets_naming(bare(3), bare(2), [0, 1, 1]), False)
        self.assertIs(lets_naming(path(2), (3, [(0, 1)]), [0, 1]), False)
        self.assertIs(lets_naming((3, [(0, 1)]), path(2), [0, 1]), False)

    def test_anything(self):
        for thing in NO_THREE:
            for web in THREES:
                self.assertIs(lets_naming(web, web, thing), False)
        for thing in ODD + [[1], [-1], [0, 0], [False]]:
            self.assertIs(lets_naming(bare(1), bare(1), thing), False)
        self.assertIs(lets_naming(bare(1), bare(1), [0]), True)

    def test_refusals(self):
        check_no_web(self, lambda thing: lets_naming(thing, (), None))
        check_no_web(self, lambda thing: lets_naming(IN_PIECES, thing, None))

    def test_by_name_and_nothing_changed(self):
        self.assertIs(lets_naming(thing=[1, 2, 0], other=star(3), one=(3, [(0, 2), (1, 2)])), True)
        self.assertIs(lets_naming(thing=[1, 0, 2], other=star(3), one=path(3)), True)
        self.assertIs(lets_naming(thing=[1, 0, 2], other=path(3), one=path(3)), False)
        check_fresh(self, lets_naming, SQUARE, ring(4), [0, 1, 3, 2])


class Renumbered(unittest.TestCase):
    def test_all_orders(self):
        for web in [bare(1), bare(4), path(4), SQUARE, (4, [(0, 1), (0, 2), (1, 2), (2, 3)]), star(5), *THREES]:
            for order in itertools.permutations(range(web[0])):
                check_kinds(self, renumbered(web, list(order)), turned(web, order))

    def test_any_webs(self):
        for web in WEBS:
            for seed in (3, 4):
                order = called_anew(web[0], seed)
                told = renumbered(web, order)
                look_at_web(told)
                check_kinds(self, told, turned(web, order))
                self.assertIs(lets_naming(web, told, order), True)

    def test_told(self):
        check_kinds(self, renumbered(path(3), [1, 2, 0]), (3, [(0, 2), (1, 2)]))
        check_kinds(self, renumbered(star(4), [3, 0, 1, 2]), (4, [(0, 3), (1, 3), (2, 3)]))
        check_kinds(self, renumbered(bare(1), [0]), bare(1))

    def test_no_such_list(self):
        for thing in NO_THREE:
            for web in (path(3), bare(3)):
                with self.assertRaises(NoNaming):
                    renumbered(web, thing)
        for thing in ODD + [[1], [0, 0]]:
            with self.assertRaises(NoNaming):
                renumbered(bare(1), thing)

    def test_refusals(self):
        check_no_web(self, lambda thing: renumbered(thing, None))

    def test_by_name_and_fresh(self):
        self.assertEqual(renumbered(numbers=[1, 0, 2], web=path(3)), star(3))
        check_fresh(self, renumbered, petersen(), called_anew(10, 5))
        check_fresh(self, renumbered, bare(2), [1, 0])


def two_namings():
    """Pairs of namings, the second from where the first leads, with the three webs."""
    told = []
    lists = [[path(3), path(2)], [ring(3), path(2)], [path(2)] * 4, [path(2), bare(1)], [bare(1)]]
    for webs in lists + [[full(4), petersen()]]:
        for seed in (1, 2):
            one, other, first = exchanged_naming(webs, seed)
            second = called_anew(other[0], seed)
            told.append((one, other, turned(other, second), first, second))
    return told


class TurnedBack(unittest.TestCase):
    def test_all_orders(self):
        for many in range(1, 6):
            for order in itertools.permutations(range(many)):
                check_kinds(self, turned_back(list(order)), [order.index(k) for k in range(many)])

    def test_it_leads_from_the_other_to_the_one(self):
        for one, other, _, first, _ in two_namings():
            self.assertIs(lets_naming(one, other, first), True)
            self.assertIs(lets_naming(other, one, turned_back(first)), True)
            self.assertEqual(turned_back(turned_back(first)), first)

    def test_more_than_forty_places(self):
        order = called_anew(45, 6)
        self.assertEqual(turned_back(order), [order.index(k) for k in range(45)])

    def test_by_name_and_fresh(self):
        self.assertEqual(turned_back(naming=[1, 2, 0]), [2, 0, 1])
        check_fresh(self, turned_back, [1, 2, 0])
        check_fresh(self, turned_back, [0, 1])


class Behind(unittest.TestCase):
    def test_all_orders(self):
        for many in range(1, 5):
            orders = list(itertools.permutations(range(many)))
            for first, second in itertools.product(orders, orders):
                check_kinds(self, behind(list(first), list(second)), [second[place] for place in first])

    def test_it_leads_from_the_first_web_to_the_last(self):
        for one, _, last, first, second in two_namings():
            self.assertIs(lets_naming(one, last, behind(first, second)), True)
            self.assertEqual(behind(first, turned_back(first)), list(range(one[0])))

    def test_by_name_and_fresh(self):
        self.assertEqual(behind(second=[1, 0, 2], first=[1, 2, 0]), [0, 2, 1])
        check_fresh(self, behind, [1, 2, 0], [1, 0, 2])
        check_fresh(self, behind, [0, 1], [0, 1])


class Samples(unittest.TestCase):
    """What the tests of later stages are compared with is right for webs that are seen through."""

    def test_namings_by_words(self):
        self.assertEqual(namings_by_words(path(3), path(3)), [[0, 1, 2], [2, 1, 0]])
        self.assertEqual(len(namings_by_words(full(4), full(4))), 24)
        self.assertEqual(len(namings_by_words(SQUARE, ring(4))), 8)
        self.assertEqual(namings_by_words(path(4), star(4)), [])
        self.assertEqual(namings_by_words(bare(2), bare(3)), [])

    def test_exchanged_naming(self):
        for webs in ([path(3), path(2)], [ring(3), path(2)], [path(2)] * 4, [path(4), star(4)]):
            for seed in range(3):
                one, other, naming = exchanged_naming(webs, seed)
                self.assertTrue(is_naming_by_words(one, other, naming))
        self.assertEqual(exchanged_naming([], 0), (bare(1), bare(1), [0]))

    def test_no_web_goes_ahead(self):
        with self.assertRaises(NoWeb) as held:
            lets_naming((0, []), (), None)
        self.assertEqual(held.exception.part, "places")


if __name__ == "__main__":
    unittest.main()
