import copy
import itertools
import unittest

from samples import (
    IN_PIECES, NO_WEBS, ODD, WEBS, WEBS_LISTS, Spiteful, bare, check_fresh, check_kinds, check_no_web, check_no_webs,
    from_pairs, full, many_ties, path, petersen, product_by_words, ring, rows_by_order, star, tied_by_words,
    turned_factoring,
)
from webtimes.errors import TooBig
from webtimes.factorings import lets_factoring, own_factoring
from webtimes.products import power, product

# Of one to five webs, of one piece and of several.
FACTORS = [
    [path(2)], [petersen()], [IN_PIECES], [bare(40)], [full(16)], [many_ties()], [path(3), path(2)], [ring(3), ring(5)],
    [full(4), petersen()], [ring(4), path(3)], [bare(2), bare(3)], [IN_PIECES, path(2)], [ring(3), bare(2)],
    [path(2), star(4), bare(3)], [path(2), path(3), path(4)], [path(2)] * 4, [path(2)] * 5, [bare(2)] * 5,
    [path(2), bare(2), (2, [(0, 1)]), path(3)],
]


def factoring_by_words(web, webs, rows):
    if sorted(rows) != rows_by_order(webs) or len(rows) != web[0]:
        return False
    pairs = itertools.combinations(range(web[0]), 2)
    return all(((a, b) in web[1]) == tied_by_words(webs, rows[a], rows[b]) for a, b in pairs)


class LetsFactoring(unittest.TestCase):
    def test_products_with_places_called_anew(self):
        for webs in FACTORS:
            for seed in range(3):
                web, factoring = turned_factoring(webs, seed)
                self.assertIs(lets_factoring(web, factoring), True)

    def test_each_web_by_itself(self):
        for web in WEBS:
            self.assertIs(lets_factoring(web, ([web], [[k] for k in range(web[0])])), web[0] > 1)

    def test_the_web_of_one_place(self):
        self.assertIs(lets_factoring(bare(1), ([], [[]])), True)
        wrong = [
            ([bare(1)], [[0]]), ([], []), ([], [[], []]), ([], [()]), ([], ([],)), ((), [[]]), [[], [[]]], ([], [[0]]),
            ([bare(1), bare(1)], [[0, 0]]), ([path(2)], [[0]]), ([[]], [[]]), ([], [[]], []),
        ]
        for thing in wrong + ODD:
            self.assertIs(lets_factoring(bare(1), thing), False)

    def test_anything(self):
        for web in (bare(1), bare(2), path(2), ring(4), IN_PIECES, many_ties()):
            for thing in ODD + [thing for thing, _, _ in NO_WEBS]:
                self.assertIs(lets_factoring(web, thing), False)
                self.assertIs(lets_factoring(web, (thing, thing)), False)
                self.assertIs(lets_factoring(web, (thing, [[k] for k in range(web[0])])), False)
                self.assertIs(lets_factoring(web, ([web], thing)), False)
                self.assertIs(lets_factoring(web, ([thing], [[k] for k in range(web[0])])), False)

    def test_wrong_forms(self):
        web, (webs, rows) = turned_factoring([path(3), path(2)], 1)
        self.assertIs(lets_factoring(web, (webs, rows)), True)
        wrong = [
            [webs, rows], (webs, rows, []), (webs,), (rows, webs), (tuple(webs), rows), (webs, tuple(rows)),
            ([list(webs[0]), webs[1]], rows), ([(3, tuple(webs[0][1])), webs[1]], rows), (webs[:1], rows),
            (webs + webs[:1], rows), (webs[::-1], rows), (webs, [tuple(row) for row in rows]), (webs, rows[:-1]),
            (webs, rows + rows[:1]), (webs, rows + [[3, 0]]), (webs, rows[:-1] + rows[:1]), (webs, []), ([], rows),
            (webs, rows[:-1] + [rows[-1] + [0]]), (webs, rows[:-1] + [[0]]), (webs, rows[:-1] + [None]), ([], []),
            (webs, rows[:-1] + [Spiteful()]), (webs, rows[:-1] + [[Spiteful(), 0]]), ([], [[]] * 6),
            (webs, [[bool(at) if at < 2 else at for at in row] for row in rows]),
            (webs, [[float(at) for at in row] for row in rows]), (webs, [[str(at) for at in row] for row in rows]),
            (webs, dict(enumerate(rows))), ({0: webs[0], 1: webs[1]}, rows),
            (webs + [bare(1)], [row + [0] for row in rows]), ([bare(1)] + webs, [[0] + row for row in rows]),
            (webs, [[2 - row[0], row[1] - 1] for row in rows]), (webs, [[row[0], row[1] + 1] for row in rows]),
            ([webs[0], None], rows), ([webs[0], (2, [(1, 0)])], rows), ([webs[0], (2, [])], rows),
        ]
        for thing in wrong:
            self.assertIs(lets_factoring(web, thing), False, thing)

    def test_one_row_exchanged_or_twice(self):
        web, (webs, rows) = turned_factoring([path(3), path(4)], 2)
        for one in range(len(rows)):
            for other in range(len(rows)):
                new = list(rows)
                new[one], new[other] = rows[other], rows[one]
                self.assertIs(lets_factoring(web, (webs, new)), factoring_by_words(web, webs, new))
                new[one] = rows[one]
                self.assertIs(lets_factoring(web, (webs, new)), one == other)

    def test_ties_too_few_and_too_many(self):
        web, (webs, rows) = turned_factoring([ring(4), path(2)], 3)
        for tie in web[1]:
            less = (web[0], [other for other in web[1] if other != tie])
            self.assertIs(lets_factoring(less, (webs, rows)), False)
            for pair in full(8)[1]:
                if pair not in web[1]:
                    self.assertIs(lets_factoring(from_pairs(8, less[1] + [pair]), (webs, rows)), False)
                    self.assertIs(lets_factoring(from_pairs(8, web[1] + [pair]), (webs, rows)), False)

    def test_as_many_ties_but_others(self):
        self.assertIs(lets_factoring(star(4), ([path(4)], [[0], [1], [2], [3]])), False)
        self.assertIs(lets_factoring(path(4), ([path(4)], [[3], [2], [1], [0]])), True)
        self.assertIs(lets_factoring(path(4), ([path(4)], [[0], [2], [1], [3]])), False)

    def test_all_webs_of_four_places(self):
        pairs = full(4)[1]
        two, none = path(2), bare(2)
        webs_lists = [[two, two], [none, two], [two, none], [none, none], [star(4)], [ring(4)]]
        for at in range(2 ** len(pairs)):
            web = (4, [pair for k, pair in enumerate(pairs) if at >> k & 1])
            for webs in webs_lists:
                for rows in itertools.permutations(rows_by_order(webs)):
                    thing = (webs, list(rows))
                    self.assertIs(lets_factoring(web, thing), factoring_by_words(web, webs, list(rows)))

    def test_as_many_rows_as_the_webs_have(self):
        self.assertIs(lets_factoring(bare(2), ([bare(3)], [[0], [1]])), False)
        self.assertIs(lets_factoring(bare(3), ([bare(2), bare(2)], [[0, 0], [0, 1], [1, 0]])), False)
        self.assertIs(lets_factoring(path(2), ([(3, [(0, 1)])], [[0], [1]])), False)
        self.assertIs(lets_factoring(path(2), ([(3, [(0, 1)])], [[0], [1], [2]])), False)

    def test_several_factorings_of_one_web(self):
        cube = power(path(2), 3)
        rows = rows_by_order([path(2)] * 3)
        square = product([path(2), path(2)])
        self.assertIs(lets_factoring(cube, ([path(2)] * 3, rows)), True)
        self.assertIs(lets_factoring(cube, ([square, path(2)], [[2 * a + b, c] for a, b, c in rows])), True)
        self.assertIs(lets_factoring(cube, ([path(2), square], [[c, 2 * a + b] for a, b, c in rows])), True)
        self.assertIs(lets_factoring(cube, ([cube], [[k] for k in range(8)])), True)

    def test_many_things(self):
        self.assertIs(lets_factoring(path(2), ([path(2)] * 13, [[0] * 13, [1] * 13])), False)
        self.assertIs(lets_factoring(path(2), ([path(2)] * 10 ** 5, [[0]] * 10 ** 5)), False)
        self.assertIs(lets_factoring(path(2), ([bare(1)] * 13 + [path(2)], [[0] * 13 + [k] for k in (0, 1)])), False)

    def test_refusals(self):
        check_no_web(self, lambda web: lets_factoring(web, None))
        check_no_web(self, lambda web: lets_factoring(web, ([], [[]])))

    def test_by_name_and_nothing_changed(self):
        self.assertIs(lets_factoring(thing=([], [[]]), web=bare(1)), True)
        check_fresh(self, lets_factoring, *turned_factoring([path(3), path(2)], 0))


class OwnFactoring(unittest.TestCase):
    def test_by_the_document(self):
        for webs in WEBS_LISTS + FACTORS:
            told = own_factoring(webs)
            big = [k for k in range(len(webs)) if webs[k][0] > 1]
            awaited = ([webs[k] for k in big], [[row[k] for k in big] for row in rows_by_order(webs)])
            check_kinds(self, told, awaited)
            self.assertIs(lets_factoring(product(webs), told), True)

    def test_told(self):
        check_kinds(self, own_factoring([]), ([], [[]]))
        check_kinds(self, own_factoring([bare(1)] * 12), ([], [[]]))
        check_kinds(self, own_factoring([bare(1), path(2), bare(1)]), ([path(2)], [[0], [1]]))
        awaited = ([path(2), path(3)], [[0, 0], [0, 1], [0, 2], [1, 0], [1, 1], [1, 2]])
        check_kinds(self, own_factoring([path(2), bare(1), path(3)]), awaited)

    def test_the_bounds(self):
        for webs in ([ring(3), (10, full(10)[1][:30])], [full(4), petersen()], [bare(5), bare(8)], [full(16)]):
            self.assertEqual(len(own_factoring(webs)[1]), product_by_words(webs)[0])
        beyond = [(3, [(0, 1)]), (10, full(10)[1][:37])]
        self.assertEqual(len(product_by_words(beyond)[1]), 121)
        for webs in (beyond, [bare(21), bare(2)], [path(2)] * 6, [full(16), bare(2)], [path(40)] * 12):
            with self.assertRaises(TooBig):
                own_factoring(webs)

    def test_refusals(self):
        check_no_webs(self, own_factoring)

    def test_by_name_and_fresh(self):
        self.assertEqual(own_factoring(webs=[]), ([], [[]]))
        twice = ring(4)
        for webs in ([twice, twice], [path(2), bare(1), path(3)], [path(2)], [], [copy.deepcopy(IN_PIECES), path(2)]):
            check_fresh(self, own_factoring, webs)


if __name__ == "__main__":
    unittest.main()
