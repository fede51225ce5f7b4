import unittest

from samples import (
    HANGING, LADDER, PRIMES, PRODUCTS, bare, check_apart, check_fresh, check_kinds, check_no_web, full, many_ties, path,
    petersen, ring, turned_factoring,
)
from test_chains import every_link, hung_by_words
from webtimes.chains import hung, lets_links
from webtimes.classes import classes, links_of
from webtimes.layers import direction
from webtimes.ways import hangs_together


class Classes(unittest.TestCase):
    def test_they_are_what_all_links_hang(self):
        for web in [web for web in HANGING if web[0] <= 10]:
            check_kinds(self, classes(web), hung_by_words(web, every_link(web)))

    def test_all_webs_of_five_places(self):
        pairs = full(5)[1]
        for at in range(0, 2 ** len(pairs), 3):
            web = (5, [pair for k, pair in enumerate(pairs) if at >> k & 1])
            if hangs_together(web):
                self.assertEqual(classes(web), hung_by_words(web, every_link(web)))

    def test_they_are_the_directions_by_primes(self):
        for webs in PRODUCTS:
            for seed in (7, 8):
                web, factoring = turned_factoring(webs, seed)
                lists = [[tie for tie in web[1] if direction(factoring, *tie) == k] for k in range(len(webs))]
                check_kinds(self, classes(web), sorted(lists))

    def test_told(self):
        check_kinds(self, classes(bare(1)), [])
        check_kinds(self, classes(path(2)), [[(0, 1)]])
        check_kinds(self, classes(ring(4)), [[(0, 1), (2, 3)], [(0, 3), (1, 2)]])
        for web in PRIMES + [petersen(), full(16), many_ties(), path(40), ring(40)]:
            check_kinds(self, classes(web), [web[1]])
        check_kinds(self, classes(LADDER), [[(0, 1), (2, 3), (4, 5)], [(0, 2), (1, 3), (2, 4), (3, 5)]])

    def test_refusals(self):
        check_no_web(self, classes)
        check_apart(self, classes)

    def test_by_name_and_fresh(self):
        self.assertEqual(classes(web=path(2)), [[(0, 1)]])
        for web in (ring(4), ring(5), bare(1)):
            check_fresh(self, classes, web)


class LinksOf(unittest.TestCase):
    def test_they_are_links_that_hang_the_classes(self):
        webs = HANGING + [turned_factoring(webs, 9)[0] for webs in PRODUCTS]
        for web in webs:
            links = links_of(web)
            self.assertIs(lets_links(web, links), True)
            self.assertEqual(hung(web, links), classes(web))
            self.assertTrue(len(links) < len(web[1]) or (links == [] and web[1] == []))

    def test_none_where_there_are_no_ties(self):
        check_kinds(self, links_of(bare(1)), [])

    def test_as_few_as_there_may_be(self):
        self.assertEqual(len(links_of(full(16))), 119)
        self.assertEqual(links_of(path(2)), [])

    def test_refusals(self):
        check_no_web(self, links_of)
        check_apart(self, links_of)

    def test_by_name_and_fresh(self):
        self.assertEqual(links_of(web=path(2)), [])
        for web in (ring(4), ring(5), bare(1), full(5)):
            check_fresh(self, links_of, web)


if __name__ == "__main__":
    unittest.main()
