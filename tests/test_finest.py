import itertools
import random
import unittest

from samples import (
    HANGING, LADDER, PRODUCTS, SQUARE, bare, called_anew, check_apart, check_fresh, check_kinds, check_no_web,
    from_pairs, full, led_to, many_ties, path, petersen, product_by_words, ring, star, table_by_words, turned,
    turned_factoring,
)
from test_chains import hung_by_words
from webtimes.factors import factored
from webtimes.finest import finest, laid_by
from webtimes.layouts import lets_layout
from webtimes.rows import number_of
from webtimes.small import small_webs
from webtimes.ways import hangs_together

GRID = (6, [(0, 1), (0, 2), (1, 3), (2, 3), (2, 4), (3, 5), (4, 5)])
TREE = from_pairs(9, [(4, 0), (4, 7), (7, 2), (2, 1), (7, 3), (3, 8), (8, 6), (3, 5)])
# A ring of six with a tie across, in two rings of four; three squares around one place; a triangle on a ring.
MORE = [
    from_pairs(6, ring(6)[1] + [(0, 3)]), GRID, TREE,
    from_pairs(7, [(0, 1), (0, 2), (0, 3), (1, 4), (2, 4), (2, 5), (3, 5), (3, 6), (1, 6)]),
    from_pairs(7, [(0, 1), (1, 2), (0, 2), (2, 3), (3, 4), (4, 5), (5, 6), (6, 2)]), ring(7), ring(8), ring(20),
    from_pairs(5, [(0, 1), (0, 2), (0, 3), (1, 4), (2, 4), (3, 4)]), from_pairs(8, ring(8)[1] + [(0, 4)]),
]


def some_webs():
    """Webs that hang together, at random, of several sizes."""
    chance = random.Random(1)
    webs = []
    for _ in range(60):
        many = chance.randrange(4, 11)
        tree = [(chance.randrange(k), k) for k in range(1, many)]
        webs.append(turned(from_pairs(many, tree + chance.sample(full(many)[1], chance.randrange(4))),
                           called_anew(many, chance.random())))
    return webs


def far_classes_by_words(web):
    far = table_by_words(web)
    pairs = itertools.product(web[1], web[1])
    links = [("far", (x, y), (u, v)) for (x, y), (u, v) in pairs if far[x][u] + far[y][v] != far[x][v] + far[y][u]]
    return hung_by_words(web, links)


def finest_by_words(web):
    webs, columns = [], []
    for own_ties in far_classes_by_words(web):
        left = [tie for tie in web[1] if tie not in own_ties]
        pieces = sorted({tuple(sorted(led_to(left, place))) for place in range(web[0])})
        column = [[k for k, piece in enumerate(pieces) if place in piece][0] for place in range(web[0])]
        webs.append(from_pairs(len(pieces), [(column[one], column[other]) for one, other in own_ties]))
        columns.append(column)
    return webs, [[column[place] for column in columns] for place in range(web[0])]


ALL = HANGING + MORE + some_webs() + [web for places in range(1, 6) for web in small_webs(places)]


class Finest(unittest.TestCase):
    def test_by_words(self):
        for web in ALL + [turned_factoring(webs, 1)[0] for webs in PRODUCTS]:
            check_kinds(self, finest(web), finest_by_words(web))

    def test_it_is_a_layout(self):
        for web in ALL + [turned_factoring(webs, 2)[0] for webs in PRODUCTS]:
            self.assertIs(lets_layout(web, finest(web)), True)

    def test_the_finest_layout_of_each_of_its_webs_is_itself(self):
        for web in ALL:
            for own in finest(web)[0]:
                self.assertTrue(own[0] > 1 and hangs_together(own))
                check_kinds(self, finest(own), ([own], [[place] for place in range(own[0])]))

    def test_of_a_product_it_is_that_of_the_factors(self):
        for webs in PRODUCTS:
            web = product_by_words(webs)
            many = sum(len(finest(own)[0]) for own in webs)
            self.assertEqual(len(finest(web)[0]), many)
            for number, own in enumerate(finest(web)[0]):
                self.assertTrue(any(own in finest(factor)[0] for factor in webs), number)

    def test_told(self):
        check_kinds(self, finest(bare(1)), ([], [[]]))
        check_kinds(self, finest(path(2)), ([path(2)], [[0], [1]]))
        check_kinds(self, finest(path(3)), ([path(2), path(2)], [[0, 0], [1, 0], [1, 1]]))
        check_kinds(self, finest(SQUARE), ([path(2), path(2)], [[0, 0], [1, 0], [0, 1], [1, 1]]))
        rows = [[0, 0, 0], [1, 0, 0], [1, 0, 1], [1, 1, 1], [0, 1, 1], [0, 1, 0]]
        check_kinds(self, finest(ring(6)), ([path(2)] * 3, rows))
        check_kinds(self, finest(LADDER), ([path(2)] * 3, [
            [0, 0, 0], [1, 0, 0], [0, 1, 0], [1, 1, 0], [0, 1, 1], [1, 1, 1],
        ]))
        for web in (ring(5), full(4), ring(3), petersen(), full(16), many_ties(), MORE[-2]):
            check_kinds(self, finest(web), ([web], [[place] for place in range(web[0])]))
        self.assertEqual(finest(path(40))[0], [path(2)] * 39)
        self.assertEqual(finest(star(40))[0], [path(2)] * 39)
        self.assertEqual(finest(ring(40))[0], [path(2)] * 20)
        # A triangle by itself, and the two pairs of the ring of five hang together.
        self.assertEqual([web[0] for web in finest(MORE[4])[0]], [3, 5])

    def test_refusals(self):
        check_no_web(self, finest)
        check_apart(self, finest)

    def test_by_name_and_fresh(self):
        self.assertEqual(finest(web=bare(1)), ([], [[]]))
        for web in (bare(1), path(3), ring(6), ring(5), LADDER):
            check_fresh(self, finest, web)


def grouped_layout(layout, groups):
    """The layout whose webs are the products of those of each group."""
    webs, rows = layout
    chosen = [[webs[number] for number in group] for group in groups]
    own_rows = [
        [number_of(choice, [row[number] for number in group]) for choice, group in zip(chosen, groups)] for row in rows
    ]
    return [product_by_words(choice) for choice in chosen], own_rows


class LaidBy(unittest.TestCase):
    def check(self, web, layout):
        self.assertIs(lets_layout(web, layout), True)
        told = laid_by(web, layout)
        webs, rows = layout
        far_lists = far_classes_by_words(web)
        awaited = []
        for at in range(len(webs)):
            unlike = [[rows[one][at] != rows[other][at] for one, other in ties] for ties in far_lists]
            self.assertTrue(all(all(part) or not any(part) for part in unlike))
            awaited.append([number for number, part in enumerate(unlike) if part[0]])
        check_kinds(self, told, awaited)
        self.assertEqual(sorted(number for numbers in told for number in numbers), list(range(len(far_lists))))
        # The distances in each web are those in the finest webs of these numbers.
        finest_webs, finest_rows = finest(web)
        tables = [table_by_words(own) for own in finest_webs]
        for numbers, own, at in zip(told, webs, range(len(webs))):
            far = table_by_words(own)
            for one, other in itertools.combinations(range(web[0]), 2):
                steps = sum(tables[k][finest_rows[one][k]][finest_rows[other][k]] for k in numbers)
                self.assertEqual(far[rows[one][at]][rows[other][at]], steps)
        return told

    def test_the_finest_itself(self):
        for web in ALL:
            layout = finest(web)
            check_kinds(self, self.check(web, layout), [[number] for number in range(len(layout[0]))])

    def test_each_web_by_itself(self):
        for web in ALL:
            told = self.check(web, ([web], [[place] for place in range(web[0])]))
            check_kinds(self, told, [list(range(len(finest(web)[0])))])

    def test_factorings(self):
        for webs in PRODUCTS:
            for seed in (3, 4):
                web, factoring = turned_factoring(webs, seed)
                self.check(web, factoring)
                self.check(web, factored(web))

    def test_groups_of_the_finest(self):
        chance = random.Random(5)
        for web in ALL:
            layout = finest(web)
            numbers = list(range(len(layout[0])))
            if not 1 < len(numbers) <= 6 or any(own[0] > 5 for own in layout[0]):
                continue
            for _ in range(4):
                chance.shuffle(numbers)
                cut = chance.randrange(1, len(numbers))
                groups = [numbers[:cut][:3], numbers[cut:][:3]] + [[k] for k in numbers[:cut][3:] + numbers[cut:][3:]]
                told = self.check(web, grouped_layout(layout, groups))
                check_kinds(self, told, [sorted(group) for group in groups])

    def test_webs_with_other_places_and_webs_of_one(self):
        check_kinds(self, self.check(path(3), ([bare(1), path(40), bare(1)], [[0, 9, 0], [0, 10, 0], [0, 11, 0]])),
                    [[], [0, 1], []])
        check_kinds(self, self.check(bare(1), ([path(2), bare(1)], [[1, 0]])), [[], []])
        check_kinds(self, self.check(bare(1), ([], [[]])), [])
        rows = [[0, 1], [1, 1], [2, 1], [3, 1], [3, 0], [3, 2]]
        tree = from_pairs(6, [(0, 1), (1, 2), (2, 3), (3, 4), (3, 5)])
        self.check(tree, ([path(4), star(3)], [[a, {1: 0, 0: 1, 2: 2}[b]] for a, b in rows]))
        # A ring of six on the corners of a cube, in another order of its webs, turned.
        layout = finest(ring(6))
        for order in itertools.permutations(range(3)):
            told = self.check(ring(6), ([path(2)] * 3, [[1 - row[k] for k in order] for row in layout[1]]))
            check_kinds(self, told, [[k] for k in order])

    def test_more_than_twelve_webs(self):
        told = self.check(path(40), ([path(2)] * 39, [[1] * place + [0] * (39 - place) for place in range(40)]))
        check_kinds(self, told, [[number] for number in range(39)])
        check_kinds(self, self.check(path(20), ([path(2)] * 19, [[0] * (19 - k) + [1] * k for k in range(20)])),
                    [[number] for number in range(19)][::-1])

    def test_refusals(self):
        check_no_web(self, lambda web: laid_by(web, ([], [[]])))
        check_apart(self, lambda web: laid_by(web, ([], [[]])))

    def test_by_name_and_fresh(self):
        self.assertEqual(laid_by(layout=([], [[]]), web=bare(1)), [])
        for web in (path(3), ring(6), LADDER):
            check_fresh(self, laid_by, web, finest(web))
            check_fresh(self, laid_by, web, ([web], [[place] for place in range(web[0])]))


if __name__ == "__main__":
    unittest.main()
