import unittest

from samples import (
    HANGING, ODD, PRIMES, Spiteful, bare, check_apart, check_fresh, check_kinds, check_no_web, full, many_ties, path,
    petersen, ring, star, turned_factoring,
)
from webtimes.chains import hung, lets_links, shows_prime
from webtimes.classes import links_of
from webtimes.links import lets_link

CORNERS = [("corner", (0, 1), (1, 2)), ("corner", (1, 2), (2, 3))]


def every_link(web):
    pairs = [(tie, other) for tie in web[1] for other in web[1]]
    links = [(word, tie, other) for word in ("far", "corner") for tie, other in pairs]
    return [link for link in links if lets_link(web, link)]


def hung_by_words(web, links):
    """Lists of ties that links lead to, step by step, from each tie."""
    lists = []
    for tie in web[1]:
        reached = {tie}
        while True:
            more = {b for _, a, b in links if a in reached} | {a for _, a, b in links if b in reached}
            if more <= reached:
                break
            reached |= more
        if sorted(reached) not in lists:
            lists.append(sorted(reached))
    return sorted(lists)


class LetsLinks(unittest.TestCase):
    def test_told(self):
        for web in HANGING:
            self.assertIs(lets_links(web, []), True)
        self.assertIs(lets_links(path(4), CORNERS), True)
        self.assertIs(lets_links(path(4), CORNERS + CORNERS[::-1]), True)
        for web in [web for web in HANGING if 1 < web[0] <= 6]:
            links = every_link(web)
            for start in range(0, len(links), 100):
                self.assertIs(lets_links(web, links[start:start + 100]), True)

    def test_at_most_120(self):
        links = [("far", (0, 1), (0, 1))] * 121
        self.assertIs(lets_links(path(2), links[:120]), True)
        self.assertIs(lets_links(path(2), links), False)
        self.assertIs(lets_links(path(2), links * 1000), False)

    def test_each_must_be_one(self):
        for thing in [("far", (0, 1), (1, 2)), ("corner", (0, 1), (2, 3)), ["corner", (0, 1), (1, 2)], None, Spiteful(),
                      ("corner", (1, 0), (1, 2)), ("corner", (0, True), (1, 2)), ("corner", (0, 1), (1, 2), 0)]:
            self.assertIs(lets_links(path(4), [thing]), False)
            self.assertIs(lets_links(path(4), CORNERS + [thing]), False)
            self.assertIs(lets_links(path(4), [thing] + CORNERS), False)

    def test_anything(self):
        wrong = [tuple(CORNERS), dict(enumerate(CORNERS)), CORNERS[0], [CORNERS], (), "far", [CORNERS[0][0]], {}]
        for thing in ODD + wrong:
            self.assertIs(lets_links(path(4), thing), isinstance(thing, list) and len(thing) == 0)

    def test_refusals(self):
        for wrong in (None, [], [None]):
            check_no_web(self, lambda web, wrong=wrong: lets_links(web, wrong))
            check_apart(self, lambda web, wrong=wrong: lets_links(web, wrong))

    def test_by_name_and_nothing_changed(self):
        self.assertIs(lets_links(thing=[], web=bare(1)), True)
        check_fresh(self, lets_links, path(4), CORNERS)


class Hung(unittest.TestCase):
    def test_told(self):
        self.assertEqual(hung(path(4), []), [[(0, 1)], [(1, 2)], [(2, 3)]])
        self.assertEqual(hung(path(4), CORNERS[:1]), [[(0, 1), (1, 2)], [(2, 3)]])
        self.assertEqual(hung(path(4), CORNERS[1:]), [[(0, 1)], [(1, 2), (2, 3)]])
        self.assertEqual(hung(path(4), CORNERS), [[(0, 1), (1, 2), (2, 3)]])
        self.assertEqual(hung(ring(4), [("far", (1, 2), (0, 3))]), [[(0, 1)], [(0, 3), (1, 2)], [(2, 3)]])
        self.assertEqual(hung(bare(1), []), [])
        self.assertEqual(hung(path(2), [("far", (0, 1), (0, 1))] * 120), [[(0, 1)]])

    def test_links_lead_both_ways_and_through_others(self):
        web = star(6)
        for links in (
            [("corner", (0, 5), (0, 1)), ("corner", (0, 5), (0, 2))],
            [("corner", (0, 2), (0, 4)), ("corner", (0, 1), (0, 4))],
            [("corner", (0, 1), (0, 3)), ("corner", (0, 5), (0, 4)), ("corner", (0, 4), (0, 3))],
            [("corner", (0, k), (0, k + 1)) for k in (4, 2, 3, 1)],
        ):
            check_kinds(self, hung(web, links), hung_by_words(web, links))

    def test_some_of_all_links(self):
        for web in [web for web in HANGING if 1 < web[0] <= 10]:
            links = every_link(web)
            for step in (1, 2, 5, 13, 40):
                some = links[::-step][:120]
                check_kinds(self, hung(web, some), hung_by_words(web, some))

    def test_big_webs(self):
        web = many_ties()
        check_kinds(self, hung(web, []), [[tie] for tie in web[1]])
        web = full(16)
        links = [("far", web[1][k], web[1][k]) for k in range(120)]
        check_kinds(self, hung(web, links), [[tie] for tie in web[1]])
        check_kinds(self, hung(web, links_of(web)), [web[1]])
        self.assertEqual(hung(web, links_of(web) + links[:2]), [web[1]])

    def test_refusals(self):
        for links in ([], CORNERS):
            check_no_web(self, lambda web, links=links: hung(web, links))
            check_apart(self, lambda web, links=links: hung(web, links))

    def test_by_name_and_fresh(self):
        self.assertEqual(hung(links=[], web=path(2)), [[(0, 1)]])
        check_fresh(self, hung, path(4), CORNERS[:1])
        check_fresh(self, hung, path(4), CORNERS)
        check_fresh(self, hung, bare(1), [])


class ShowsPrime(unittest.TestCase):
    def test_told(self):
        self.assertIs(shows_prime(path(4), CORNERS), True)
        self.assertIs(shows_prime(path(4), CORNERS[:1]), False)
        self.assertIs(shows_prime(path(4), []), False)
        self.assertIs(shows_prime(path(2), []), True)
        self.assertIs(shows_prime(bare(1), []), False)
        self.assertIs(shows_prime(bare(1), [None]), False)

    def test_primes_are_shown(self):
        for web in PRIMES + [petersen(), full(16), many_ties(), path(40), ring(40)]:
            self.assertIs(shows_prime(web, links_of(web)), True)
            if len(web[1]) > 1:
                self.assertIs(shows_prime(web, links_of(web)[1:]), False)

    def test_no_links_show_a_product_prime(self):
        for webs in ([path(2), path(2)], [path(2), ring(3)], [path(3), path(3)], [full(4), star(4)], [path(2)] * 5,
                     [full(4), petersen()], [path(3), ring(3), path(2)]):
            web, _ = turned_factoring(webs, 6)
            self.assertIs(shows_prime(web, links_of(web)), False)
            if len(web[1]) < 20:
                links = every_link(web)
                self.assertGreater(len(hung(web, links)), 1)
                for start in range(0, len(links), 60):
                    self.assertIs(shows_prime(web, links[start:start + 120]), False)

    def test_too_many_or_no_links_show_nothing(self):
        links = links_of(full(16))
        self.assertEqual(len(links), 119)
        self.assertIs(shows_prime(full(16), links + links[:1]), True)
        self.assertIs(shows_prime(full(16), links + links[:2]), False)
        self.assertIs(shows_prime(path(2), [("far", (0, 1), (0, 1))] * 120), True)
        self.assertIs(shows_prime(path(2), [("far", (0, 1), (0, 1))] * 121), False)
        self.assertIs(shows_prime(path(4), CORNERS + [None]), False)
        self.assertIs(shows_prime(path(4), CORNERS + [("far", (0, 1), (1, 2))]), False)

    def test_anything(self):
        for thing in ODD + [tuple(CORNERS), CORNERS[0], [CORNERS], dict(enumerate(CORNERS))]:
            self.assertIs(shows_prime(path(4), thing), False)
            self.assertIs(shows_prime(bare(1), thing), False)
            self.assertIs(shows_prime(path(2), thing), isinstance(thing, list) and len(thing) == 0)

    def test_refusals(self):
        for wrong in (None, [], CORNERS):
            check_no_web(self, lambda web, wrong=wrong: shows_prime(web, wrong))
            check_apart(self, lambda web, wrong=wrong: shows_prime(web, wrong))

    def test_by_name_and_nothing_changed(self):
        self.assertIs(shows_prime(thing=[], web=path(2)), True)
        check_fresh(self, shows_prime, path(4), CORNERS)


if __name__ == "__main__":
    unittest.main()
