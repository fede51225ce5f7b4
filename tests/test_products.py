import unittest

from samples import (
    LADDER, SQUARE, WEBS, WEBS_LISTS, bare, check_fresh, check_kinds, check_no_web, check_no_webs, from_pairs, full,
    path, petersen, product_by_words, ring, star,
)
from webtimes.errors import TooBig
from webtimes.products import power, product
from webtimes.webs import look_at_web


class Product(unittest.TestCase):
    def test_by_the_document(self):
        for webs in WEBS_LISTS:
            told = product(webs)
            check_kinds(self, told, product_by_words(webs))
            self.assertIsNone(look_at_web(told))

    def test_told(self):
        check_kinds(self, product([]), (1, []))
        check_kinds(self, product([path(2), path(2)]), SQUARE)
        check_kinds(self, product([path(2), path(3)]), (6, [(0, 1), (0, 3), (1, 2), (1, 4), (2, 5), (3, 4), (4, 5)]))
        check_kinds(self, product([path(3), path(2)]), LADDER)
        check_kinds(self, product([bare(2), path(2)]), (4, [(0, 1), (2, 3)]))

    def test_one_web_is_itself(self):
        for web in WEBS:
            check_kinds(self, product([web]), web)
            check_kinds(self, product([bare(1), web, bare(1)]), web)

    def test_the_bounds_of_places(self):
        self.assertEqual(product([path(20), path(2)])[0], 40)
        self.assertEqual(product([bare(5), bare(8)]), bare(40))
        for webs in ([path(21), path(2)], [bare(21), bare(2)], [bare(40), bare(2)], [path(2)] * 6, [path(40)] * 12):
            with self.assertRaises(TooBig):
                product(webs)

    def test_the_bounds_of_ties(self):
        three_ties = ring(3)
        at_bound = (10, full(10)[1][:30])
        self.assertEqual(len(product([three_ties, at_bound])[1]), 120)
        one_tie = (3, [(0, 1)])
        beyond = (10, full(10)[1][:37])
        self.assertEqual(len(product_by_words([one_tie, beyond])[1]), 121)
        with self.assertRaises(TooBig):
            product([one_tie, beyond])
        self.assertEqual(len(product([one_tie, (10, beyond[1][:36])])[1]), 118)
        self.assertEqual((product([full(4), petersen()])[0], len(product([full(4), petersen()])[1])), (40, 120))
        self.assertEqual((product([full(5), ring(8)])[0], len(product([full(5), ring(8)])[1])), (40, 120))
        chord = from_pairs(8, ring(8)[1] + [(0, 2)])
        for webs in ([full(5), chord], [full(16), path(2)], [full(16), bare(2)]):
            with self.assertRaises(TooBig):
                product(webs)

    def test_twelve_webs(self):
        check_kinds(self, product([bare(1)] * 12), (1, []))
        check_kinds(self, product([bare(1)] * 7 + [path(2)] * 5), product([path(2)] * 5))

    def test_groups_side_by_side(self):
        webs = [path(2), ring(3), bare(2), bare(1), path(3)]
        whole = product(webs)
        for cut in range(len(webs) + 1):
            self.assertEqual(product([product(webs[:cut]), product(webs[cut:])]), whole)
        self.assertEqual(product([product(webs[:1]), product(webs[1:3]), product(webs[3:])]), whole)

    def test_refusals(self):
        check_no_webs(self, product)

    def test_by_name_and_fresh(self):
        self.assertEqual(product(webs=[path(2)]), path(2))
        check_fresh(self, product, [path(3), ring(4)])
        check_fresh(self, product, [ring(4)])
        check_fresh(self, product, [])


class Power(unittest.TestCase):
    def test_told(self):
        for web in (bare(1), path(2), path(3), ring(3), bare(3), (3, [(0, 2)]), star(4), ring(5), full(6)):
            for times in range(4):
                many, ties = web[0] ** times, times * len(web[1]) * web[0] ** max(0, times - 1)
                if many <= 40 and ties <= 120:
                    check_kinds(self, power(web, times), product_by_words([web] * times))
                else:
                    with self.assertRaises(TooBig):
                        power(web, times)

    def test_twice_where_it_is_left_out(self):
        for web in (bare(1), path(2), ring(3), star(4), bare(6)):
            check_kinds(self, power(web), product_by_words([web, web]))

    def test_nought_and_one(self):
        for web in WEBS:
            check_kinds(self, power(web, 0), (1, []))
            check_kinds(self, power(web, 1), web)

    def test_twelve(self):
        check_kinds(self, power(bare(1), 12), (1, []))
        with self.assertRaises(TooBig):
            power(path(2), 12)

    def test_somewhat_beyond_nothing_is_refused(self):
        check_kinds(self, power(bare(1), 13), (1, []))
        with self.assertRaises(TooBig):
            power(bare(2), 13)

    def test_the_bounds(self):
        self.assertEqual(power(path(2), 5)[0], 32)
        self.assertEqual(len(power((6, full(6)[1][:9]))[1]), 108)
        self.assertEqual(power(bare(6))[0], 36)
        self.assertEqual(len(power((6, full(6)[1][:10]))[1]), 120)
        for web, times in ((path(2), 6), (bare(7), 2), (bare(4), 3), ((6, full(6)[1][:11]), 2)):
            with self.assertRaises(TooBig):
                power(web, times)

    def test_refusals(self):
        for times in (0, 1, 2, 12):
            check_no_web(self, lambda web, times=times: power(web, times))
        check_no_web(self, power)

    def test_by_name_and_fresh(self):
        self.assertEqual(power(times=1, web=ring(5)), ring(5))
        self.assertEqual(power(web=path(2)), SQUARE)
        check_fresh(self, power, path(3))
        check_fresh(self, power, path(3), 1)
        check_fresh(self, power, path(3), 0)


if __name__ == "__main__":
    unittest.main()
