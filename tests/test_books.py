import itertools
import random
import unittest

from samples import (
    ASUNDER, IN_PIECES, LADDER, NO_WEBS, ODD, SQUARE, Spiteful, bare, called_anew, check_fresh, check_kinds,
    check_no_web, full, many_ties, path, petersen, product_by_words, ring, star, turned,
)
from webtimes.alike import alike
from webtimes.books import look_at_book, sum_of, web_by
from webtimes.errors import NoBook, NoName, NoSum, NoWeb, TooBig
from webtimes.sums import Sum
from webtimes.webs import look_at_web

TAILED = (4, [(0, 1), (0, 2), (1, 2), (2, 3)])
BOOKS = [
    [path(2)], [path(3)], [path(2), path(3)], [path(3), path(2)], [ring(3), path(2)], [path(2), path(3), ring(3)],
    [path(2), path(3), ring(3), TAILED], [star(4), path(4), full(4), TAILED], [full(7)], [path(7), ring(7), star(7)],
    [ring(5), path(2)], [path(2), turned(path(3), [1, 0, 2])],
]
# What is no book.
NO_BOOKS = ODD + [
    [], (path(2),), path(2), {0: path(2)}, [SQUARE], [path(2), SQUARE], [LADDER], [bare(1)], [path(2), bare(1)],
    [path(2), path(2)], [path(3), star(3)], [path(3), path(2), turned(path(3), [1, 0, 2])],
    [path(2), path(3), ring(3), TAILED, turned(TAILED, [3, 0, 2, 1])], [TAILED, turned(TAILED, [3, 0, 2, 1])],
    [path(8)], [path(2), path(8)], [petersen()], [full(16)], [path(2), path(3), ring(3), path(4), star(4)],
    [path(2)] * 13, [None], [path(2), None], [None, path(2)], [[2, [(0, 1)]]], [(2, [(1, 0)])], [path(2), (True, [])],
    [Spiteful()], [path(2), [path(3)]],
] + [[web] for web in ASUNDER] + [[path(2), web] for web in ASUNDER] + [[path(2), web] for web, _, _ in NO_WEBS]


def side_by_side(webs):
    many, ties = 0, []
    for own, own_ties in webs:
        ties += [(many + one, many + other) for one, other in own_ties]
        many += own
    return (many, ties)


def web_by_words(book, terms):
    webs = []
    for powers, many in terms:
        piece = product_by_words([web for web, power in zip(book, powers) for _ in range(power)])
        webs += [piece] * many
    return side_by_side(webs)


def some_terms(chance, book, most):
    """Terms of pieces that are together few enough for a web, at random."""
    kinds, found, places, ties = len(book), {}, 0, 0
    for _ in range(most):
        powers = tuple(chance.choice([0, 0, 1, 1, 2]) for _ in range(kinds))
        many, own = 1, 0
        for web, power in zip(book, powers):
            for _ in range(power):
                many, own = many * web[0], own * web[0] + many * len(web[1])
        if places + many <= 40 and ties + own <= 120:
            places, ties = places + many, ties + own
            found[powers] = found.get(powers, 0) + 1
    return sorted(found.items())


class LookAtBook(unittest.TestCase):
    def test_books(self):
        for book in BOOKS:
            self.assertIsNone(look_at_book(book))
            self.assertIsNone(look_at_book([turned(web, called_anew(web[0], 1)) for web in book]))

    def test_no_books(self):
        for thing in NO_BOOKS:
            with self.assertRaises(NoBook):
                look_at_book(thing)

    def test_by_name_and_nothing_changed(self):
        self.assertIsNone(look_at_book(thing=[path(2)]))
        check_fresh(self, look_at_book, BOOKS[6])


class SumOf(unittest.TestCase):
    def test_pieces_made_by_the_book(self):
        chance = random.Random(1)
        for book in BOOKS:
            for _ in range(8):
                terms = some_terms(chance, book, chance.choice([1, 2, 5, 9]))
                if terms:
                    web = web_by_words(book, terms)
                    called = turned(web, called_anew(web[0], chance.random()))
                    for other in (web, called):
                        told = sum_of(book, other)
                        self.assertIsInstance(told, Sum)
                        check_kinds(self, (told.terms(), told.kinds()), (terms, len(book)))

    def test_told(self):
        self.assertEqual(sum_of([path(2)], bare(1)), Sum([((0,), 1)]))
        self.assertEqual(sum_of([path(2), path(3)], bare(40)), Sum([((0, 0), 40)], 2))
        self.assertEqual(sum_of([path(2)], product_by_words([path(2)] * 5)), Sum([((5,), 1)]))
        self.assertEqual(sum_of([path(2), TAILED], IN_PIECES), Sum([((0, 0), 2), ((0, 1), 1), ((1, 0), 1)], 2))
        self.assertEqual(sum_of([path(3), path(2)], LADDER), Sum([((1, 1), 1)], 2))
        self.assertEqual(sum_of([star(3), path(2)], LADDER), Sum([((1, 1), 1)], 2))
        self.assertEqual(sum_of([path(2), full(7)], bare(2)), Sum([((0, 0), 2)], 2))

    def test_alike_just_where_the_sums_are(self):
        book = [path(2), path(3), ring(3)]
        pieces = [bare(1), path(2), path(3), ring(3), SQUARE, LADDER, product_by_words([ring(3), path(2)])]
        webs = []
        for size in range(1, 5):
            for chosen in itertools.combinations_with_replacement(pieces, size):
                web = side_by_side(chosen)
                if web[0] <= 7:
                    webs.append(turned(web, called_anew(web[0], len(webs))))
        self.assertGreater(len(webs), 30)
        # Each is made by other pieces, so no two sums are the same, as no two webs are alike.
        for one, other in itertools.combinations(webs, 2):
            self.assertIs(sum_of(book, one) == sum_of(book, other), False)
            self.assertIsNone(alike(one, other))
        for web in webs:
            called = turned(web, called_anew(web[0], 99))
            self.assertIs(sum_of(book, web) == sum_of(book, called), True)
            self.assertIsNotNone(alike(web, called))

    def test_of_a_product_the_sums_are_multiplied(self):
        book = [path(2), path(3), ring(3)]
        chance = random.Random(3)
        done = 0
        for _ in range(200):
            ones, others = [some_terms(chance, book, chance.choice([1, 2, 3])) for _ in range(2)]
            if ones and others:
                one, other = web_by_words(book, ones), web_by_words(book, others)
                made = product_by_words([one, other]) if one[0] * other[0] <= 40 else None
                if made and len(made[1]) <= 120:
                    self.assertEqual(sum_of(book, made), sum_of(book, one).multiplied(sum_of(book, other)))
                    done += 1
        self.assertGreater(done, 10)

    def test_no_name(self):
        cases = [
            ([path(2)], path(3)), ([path(3)], LADDER), ([path(2)], LADDER), ([path(2)], petersen()),
            ([path(2), path(3)], side_by_side([path(2), path(3), ring(3)])), ([full(7)], path(2)), ([path(2)], path(8)),
            ([path(2), path(7)], product_by_words([path(2), path(8)])), ([path(2)], many_ties()), ([TAILED], path(4)),
            ([path(4)], TAILED), ([ring(5)], side_by_side([bare(3), path(2)])), ([full(4)], full(16)),
            ([path(7), ring(7)], star(7)),
        ]
        for book, web in cases:
            with self.assertRaises(NoName) as held:
                sum_of(book, web)
            self.assertEqual(held.exception.name, "")

    def test_refusals(self):
        check_no_web(self, lambda web: sum_of([path(2)], web))
        for thing in NO_BOOKS:
            for web in (path(2), None, petersen()):
                with self.assertRaises(NoBook):
                    sum_of(thing, web)
        with self.assertRaises(NoWeb):
            sum_of([full(7)], (2, [(1, 0)]))

    def test_by_name_and_nothing_changed(self):
        self.assertEqual(sum_of(web=path(2), book=[path(2)]), Sum([((1,), 1)]))
        book, web = [path(2), TAILED], (8, list(IN_PIECES[1]))
        told = sum_of(book, web)
        self.assertEqual((book, web), ([path(2), TAILED], IN_PIECES))
        book[0][1].clear()
        web[1].clear()
        self.assertEqual(told, Sum([((0, 0), 2), ((0, 1), 1), ((1, 0), 1)], 2))
        check_fresh(self, lambda book, web: sum_of(book, web).terms(), [path(2), TAILED], (8, list(IN_PIECES[1])))


class WebBy(unittest.TestCase):
    def test_by_words(self):
        chance = random.Random(4)
        for book in BOOKS:
            for _ in range(8):
                terms = some_terms(chance, book, chance.choice([1, 2, 5, 9]))
                if terms:
                    told = web_by(book, Sum(terms, len(book)))
                    check_kinds(self, told, web_by_words(book, terms))
                    self.assertIsNone(look_at_web(told))
                    self.assertEqual(sum_of(book, told).terms(), terms)

    def test_told(self):
        check_kinds(self, web_by([path(2)], Sum([((0,), 1)])), bare(1))
        check_kinds(self, web_by([path(2)], Sum([((0,), 40)])), bare(40))
        check_kinds(self, web_by([path(2)], Sum([((1,), 2)])), (4, [(0, 1), (2, 3)]))
        check_kinds(self, web_by([path(2)], Sum([((0,), 1), ((2,), 1)])), (5, [(1, 2), (1, 3), (2, 4), (3, 4)]))
        check_kinds(self, web_by([path(3), path(2)], Sum([((1, 1), 1)], 2)), LADDER)
        check_kinds(self, web_by([path(2), path(3)], Sum([((1, 1), 1)], 2)), product_by_words([path(2), path(3)]))
        check_kinds(self, web_by([path(2), path(3)], Sum([((0, 1), 1), ((1, 0), 2)], 2)),
                    (7, [(0, 1), (1, 2), (3, 4), (5, 6)]))
        check_kinds(self, web_by([path(2)], Sum([((5,), 1)])), product_by_words([path(2)] * 5))

    def test_no_sum(self):
        for book in ([path(2)], [path(2), path(3)]):
            kinds = len(book)
            others = [Sum([((0,) * k, 1)], k) for k in range(1, 5) if k != kinds] + [Sum([], k) for k in range(1, 5)]
            for thing in ODD + others + [[((0,) * kinds, 1)], ([((0,) * kinds, 1)], kinds)]:
                with self.assertRaises(NoSum):
                    web_by(book, thing)

    def test_too_big(self):
        for book, terms in [
            ([path(2)], [((0,), 41)]), ([path(2)], [((6,), 1)]), ([path(2)], [((24,), 1)]),
            ([path(2)], [((0,), 10 ** 59)]), ([path(2)], [((0,), 9), ((5,), 1)]), ([path(2)], [((1,), 21)]),
            ([full(7)], [((1,), 6)]), ([full(7)], [((2,), 1)]), ([full(4), full(5)], [((1, 1), 2)]),
            ([path(7)] + BOOKS[8], [((24, 24), 10 ** 59)]), ([full(6)], [((1,), 7)]),
            ([path(2), full(7)], [((0, 1), 5), ((1, 0), 3)]),
            ([full(7), path(2)], [((0, 1), 1), ((1, 0), 5), ((1, 1), 10 ** 9)]),
        ]:
            with self.assertRaises(TooBig):
                web_by(book, Sum(terms, len(book)))

    def test_forty_places_and_more(self):
        for terms in ([((0,), 8), ((5,), 1)], [((1,), 20)], [((0,), 40)], [((0,), 4), ((2,), 9)]):
            self.assertEqual(web_by([path(2)], Sum(terms))[0], 40)
        for terms in ([((0,), 9), ((5,), 1)], [((0,), 1), ((1,), 20)], [((0,), 41)], [((0,), 5), ((2,), 9)]):
            with self.assertRaises(TooBig):
                web_by([path(2)], Sum(terms))

    def test_120_ties_and_more(self):
        book = [path(2), full(4), full(6)]
        terms = [((0, 0, 1), 1), ((0, 1, 0), 1), ((0, 1, 1), 1)]
        told = web_by(book, Sum(terms + [((1, 0, 0), 3)], 3))
        self.assertEqual((told[0], len(told[1])), (40, 120))
        with self.assertRaises(TooBig):
            # 38 places and 121 ties.
            web_by(book, Sum(terms + [((2, 0, 0), 1)], 3))

    def test_refusals(self):
        for thing in NO_BOOKS:
            for total in (Sum([((0,), 1)]), None, Sum([]), Sum([((24,), 1)])):
                with self.assertRaises(NoBook):
                    web_by(thing, total)
        with self.assertRaises(NoSum):
            web_by([path(2)], Sum([((24, 24), 1)], 2))

    def test_by_name_and_fresh(self):
        total = Sum([((0,), 2), ((1,), 2)])
        self.assertEqual(web_by(total=Sum([((1,), 1)]), book=[path(2)]), path(2))
        check_fresh(self, lambda book: web_by(book, total), [path(2)])
        self.assertEqual(total, Sum([((0,), 2), ((1,), 2)]))


if __name__ == "__main__":
    unittest.main()
