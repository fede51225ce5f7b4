import itertools
import random
import unittest

from samples import (
    HANGING, LADDER, ODD, PRODUCTS, SQUARE, WEBS, WEBS_LISTS, Spiteful, bare, called_anew, check_apart, check_fresh,
    check_kinds, check_no_web, check_no_webs, from_pairs, full, many_ties, path, petersen, product_by_words, ring,
    rows_by_order, star, turned, turned_factoring,
)
from test_factors import factored_by_words
from test_keeping import LARGE
from webtimes.colours import fewest_colours, lets_colours, mixed
from webtimes.errors import Apart, NoWeb, NoWebs, TooBig
from webtimes.small import small_webs

# A ring of five with a place tied to all: four colours, but no full web of four places.
WHEEL = from_pairs(6, ring(5)[1] + [(k, 5) for k in range(5)])


def is_colouring_by_words(web, colours):
    return all(colours[one] != colours[other] for one, other in web[1])


def fewest_by_words(web):
    """The least number of colours, by all lists of so many colours."""
    for many in range(1, web[0] + 1):
        if any(is_colouring_by_words(web, colours) for colours in itertools.product(range(many), repeat=web[0])):
            return many
    raise AssertionError("no colouring")


class LetsColours(unittest.TestCase):
    def test_all_lists_of_small_webs(self):
        for web in (SQUARE, path(3), ring(3), bare(2), (4, [(0, 1), (0, 2), (1, 2), (2, 3)]), bare(1), full(4)):
            for colours in itertools.product(range(4), repeat=web[0]):
                self.assertIs(lets_colours(web, list(colours)), is_colouring_by_words(web, colours))

    def test_every_place_by_its_own(self):
        for web in WEBS:
            self.assertIs(lets_colours(web, list(range(web[0]))), True)
            self.assertIs(lets_colours(web, [10 ** 50 + place for place in range(web[0])]), True)
            self.assertIs(lets_colours(web, [7] * web[0]), web[1] == [])
            self.assertIs(lets_colours(web, list(range(web[0] - 1))), False)
            self.assertIs(lets_colours(web, list(range(web[0] + 1))), False)
            self.assertIs(lets_colours(web, tuple(range(web[0]))), False)

    def test_anything_else(self):
        things = [
            [0, 1], [0, 1, 0, 1], [0, 0, 1], [0, 1, 1], (0, 1, 0), [0, 1, -1], [-1, 0, -1], [0, 1, True], [False, 1, 0],
            [0, 1.0, 0], [0, "1", 0], [0, None, 0], [[0], 1, 0], "010", {0: 0, 1: 1, 2: 0}, range(3),
            [0, Spiteful(), 0], [[0, 1, 0]], [0, [1], 0],
        ]
        for thing in ODD + things:
            self.assertIs(lets_colours(path(3), thing), False)
        for thing in ODD:
            self.assertIs(lets_colours(bare(40), thing), False)
        self.assertIs(lets_colours(bare(1), [True]), False)
        self.assertIs(lets_colours(bare(1), [0]), True)
        self.assertIs(lets_colours(bare(1), [-1]), False)
        self.assertIs(lets_colours(bare(1), []), False)

    def test_refusals(self):
        check_no_web(self, lambda web: lets_colours(web, None))
        check_no_web(self, lambda web: lets_colours(web, [0, 1]))

    def test_by_name_and_nothing_changed(self):
        self.assertIs(lets_colours(thing=[0, 1], web=path(2)), True)
        check_fresh(self, lets_colours, path(3), [0, 1, 0])
        check_fresh(self, lets_colours, path(3), [0, 1, 1])


class Mixed(unittest.TestCase):
    def test_all_lists(self):
        chance = random.Random(1)
        for webs in WEBS_LISTS + PRODUCTS:
            for bound in (1, 7, 100):
                colourings = []
                for web in webs:
                    colours = [chance.randrange(bound) for _ in range(web[0])]
                    own = list(range(web[0]))
                    colourings.append(colours if lets_colours(web, colours) else chance.sample(own, len(own)))
                most = 1 + max([colour for colours in colourings for colour in colours], default=0)
                sums = [sum(colours[k] for colours, k in zip(colourings, row)) for row in rows_by_order(webs)]
                told = mixed(webs, colourings)
                check_kinds(self, told, [total % most for total in sums])
                self.assertTrue(is_colouring_by_words(product_by_words(webs), told))

    def test_no_webs(self):
        check_kinds(self, mixed([], []), [0])

    def test_told(self):
        check_kinds(self, mixed([bare(1)], [[5]]), [5])
        check_kinds(self, mixed([bare(1), bare(1)], [[5], [5]]), [4])
        check_kinds(self, mixed([bare(1)] * 12, [[0]] * 12), [0])
        check_kinds(self, mixed([path(2), path(3)], [[0, 1], [1, 0, 1]]), [1, 0, 1, 0, 1, 0])
        check_kinds(self, mixed([path(2), path(3)], [[4, 1], [0, 1, 2]]), [4, 0, 1, 1, 2, 3])
        check_kinds(self, mixed([path(2)], [[10 ** 50, 3]]), [10 ** 50, 3])
        check_kinds(self, mixed([bare(2), path(2)], [[0, 0], [0, 2]]), [0, 2, 0, 2])

    def test_too_big(self):
        for webs in ([path(21), path(2)], [bare(40), bare(2)], [path(2)] * 6, [full(16), path(2)], [path(40)] * 12):
            with self.assertRaises(TooBig):
                mixed(webs, [list(range(many)) for many, _ in webs])
        for webs in ([path(20), path(2)], [full(4), petersen()], [full(5), ring(8)]):
            self.assertEqual(len(mixed(webs, [list(range(many)) for many, _ in webs])), 40)

    def test_refusals(self):
        check_no_webs(self, lambda webs: mixed(webs, []))
        check_no_webs(self, lambda webs: mixed(webs, [[0, 1]] * 13))
        with self.assertRaises(NoWebs):
            mixed([path(40), path(2), None], [])

    def test_by_name_and_fresh(self):
        self.assertEqual(mixed(colourings=[[0, 1]], webs=[path(2)]), [0, 1])
        check_fresh(self, mixed, [path(2), path(3)], [[0, 1], [1, 0, 2]])
        check_fresh(self, mixed, [path(3)], [[0, 1, 0]])
        check_fresh(self, mixed, [], [])


def has_small_factors(web):
    return all(many <= 7 for many, _ in factored_by_words(web)[0])


class FewestColours(unittest.TestCase):
    def check(self, web, awaited):
        told = fewest_colours(web)
        self.assertIsInstance(told, tuple)
        many, colouring = told
        check_kinds(self, many, awaited)
        check_kinds(self, sorted(set(colouring)), list(range(many)))
        self.assertIs(lets_colours(web, colouring), True)

    def test_small_webs(self):
        for places in range(1, 6):
            for web in small_webs(places):
                self.check(web, fewest_by_words(web))
                self.check(turned(web, called_anew(places, 1)), fewest_by_words(web))

    def test_webs_of_six_and_seven_places(self):
        chance = random.Random(2)
        for places in (6, 7):
            for _ in range(25):
                tree = [(chance.randrange(k), k) for k in range(1, places)]
                more = chance.sample(full(places)[1], chance.randrange(10))
                web = from_pairs(places, tree + more)
                self.check(web, fewest_by_words(web))
        for web, awaited in [(full(6), 6), (full(7), 7), (ring(7), 3), (ring(6), 2), (star(7), 2), (WHEEL, 4)]:
            self.check(web, awaited)

    def test_products(self):
        lists = [webs for webs in PRODUCTS if all(many <= 7 for many, _ in webs)] + [
            [WHEEL, path(3)], [path(3), WHEEL], [ring(5), full(4)], [ring(7), path(2)], [full(6), path(2)],
            [ring(3), ring(3), path(2)], [ring(5), ring(7)], [SQUARE, LADDER], [path(2), ring(7)],
        ]
        for webs in lists:
            awaited = max(fewest_by_words(web) for web in webs)
            for seed in (1, 2, 3):
                self.check(turned_factoring(webs, seed)[0], awaited)

    def test_told(self):
        check_kinds(self, fewest_colours(bare(1)), (1, [0]))
        self.assertIn(fewest_colours(path(2)), [(2, [0, 1]), (2, [1, 0])])
        self.assertEqual(fewest_colours(SQUARE)[0], 2)
        self.assertEqual(fewest_colours(product_by_words([path(2)] * 5))[0], 2)

    def test_too_big(self):
        for web in [path(8), petersen(), many_ties(), full(16), ring(8), path(40), star(8)]:
            with self.assertRaises(TooBig):
                fewest_colours(web)
            with self.assertRaises(TooBig):
                fewest_colours(turned(web, called_anew(web[0], 3)))
        for web in [web for webs in LARGE for web in webs] + HANGING:
            if has_small_factors(web):
                self.assertIs(lets_colours(web, fewest_colours(web)[1]), True)
            else:
                with self.assertRaises(TooBig):
                    fewest_colours(web)

    def test_refusals(self):
        check_no_web(self, fewest_colours)
        check_apart(self, fewest_colours)
        with self.assertRaises(Apart):
            fewest_colours((9, path(8)[1]))
        with self.assertRaises(NoWeb):
            fewest_colours((41, path(40)[1]))

    def test_by_name_and_fresh(self):
        self.assertEqual(fewest_colours(web=bare(1)), (1, [0]))
        for web in (bare(1), path(3), ring(5), LADDER, SQUARE, product_by_words([path(3), ring(3)])):
            check_fresh(self, fewest_colours, web)


if __name__ == "__main__":
    unittest.main()
