import itertools
import random
import unittest

from samples import (
    ASUNDER, HANGING, IN_PIECES, LADDER, NO_PLACES, NO_ROWS, ODD, SQUARE, TRIPLE, WEBS, Spiteful, bare, check_fresh,
    check_kinds, check_no_web, from_pairs, full, many_ties, path, petersen, product_by_words, ring, rows_by_order, star,
    table_by_words,
)
from test_keeping import check_hanging_webs
from webtimes.errors import NoPlace
from webtimes.hulls import hull, hull_sides
from webtimes.rows import number_of

TAILED_RING = from_pairs(7, [(0, 1), (1, 2), (2, 3), (3, 4), (4, 0), (4, 5), (5, 6)])


def hull_by_words(web, places):
    """The closure: what is between two of the places is added, until nothing is."""
    far = table_by_words(web)
    found = set(places)
    ahead = None
    while found != ahead:
        ahead = set(found)
        for one, other in itertools.product(ahead, ahead):
            if far[one][other] is not None:
                for place in range(web[0]):
                    steps = (far[one][place], far[place][other])
                    if None not in steps and sum(steps) == far[one][other]:
                        found.add(place)
    return sorted(found)


def is_closed(far, places):
    return all(
        place in places
        for one, other in itertools.combinations(places, 2) if far[one][other] is not None
        for place in range(len(far)) if far[one][place] is not None
        and far[one][place] + far[place][other] == far[one][other]
    )


class Hull(unittest.TestCase):
    def test_the_fewest_closed_places(self):
        for web in [SQUARE, path(4), ring(5), TAILED_RING, ring(6), LADDER, IN_PIECES, bare(4), star(5), full(4)]:
            far = table_by_words(web)
            sizes = range(web[0] + 1)
            closed = [c for size in sizes for c in itertools.combinations(range(web[0]), size) if is_closed(far, c)]
            for size in range(4):
                for places in itertools.combinations(range(web[0]), size):
                    within = [list(found) for found in closed if set(places) <= set(found)]
                    # The first has the fewest places, and all others have these, too.
                    self.assertTrue(all(set(within[0]) <= set(found) for found in within))
                    check_kinds(self, hull(web, list(places)), within[0])

    def test_all_webs(self):
        chance = random.Random(1)
        for web in WEBS + [TAILED_RING, product_by_words([path(6), path(6)]), product_by_words([ring(5), ring(6)])]:
            for size in (1, 2, 2, 2, 3, 4):
                places = [chance.randrange(web[0]) for _ in range(size)]
                check_kinds(self, hull(web, places), hull_by_words(web, places))

    def test_no_places(self):
        for web in WEBS:
            check_kinds(self, hull(web, []), [])

    def test_any_order_and_several_times(self):
        chance = random.Random(2)
        for web in HANGING + ASUNDER:
            places = [chance.randrange(web[0]) for _ in range(3)]
            awaited = hull(web, sorted(set(places)))
            for order in itertools.permutations(places):
                check_kinds(self, hull(web, list(order)), awaited)
            check_kinds(self, hull(web, places * 50), awaited)

    def test_told(self):
        check_kinds(self, hull(path(5), [3, 1, 3]), [1, 2, 3])
        check_kinds(self, hull(ring(4), [2, 0]), [0, 1, 2, 3])
        check_kinds(self, hull(ring(5), [2, 0]), [0, 1, 2])
        check_kinds(self, hull(ring(5), [0, 1, 3]), [0, 1, 2, 3, 4])
        check_kinds(self, hull(IN_PIECES, [7, 0, 4, 6]), [0, 4, 5, 6, 7])
        check_kinds(self, hull(bare(40), [39, 0, 39]), [0, 39])
        check_kinds(self, hull(many_ties(), [5]), [5])
        check_kinds(self, hull(path(40), [39, 0]), list(range(40)))
        # What is between comes to it by steps: 1 is between 0 and 2, what is across only then.
        check_kinds(self, hull(product_by_words([path(3), path(3)]), [0, 8]), list(range(9)))

    def test_refusals(self):
        check_no_web(self, lambda web: hull(web, None))
        check_no_web(self, lambda web: hull(web, [0]))
        things = [thing for thing in ODD if not isinstance(thing, list)] + [
            [2], [-1], [0, 2], [0, 1, -1], (0, 1), (), [True], [0, False], [0.0], ["0"], [None], [[0]], [0, Spiteful()],
            {0: 1}, "01", range(2), [[]],
        ] + [[0, thing] for thing in NO_PLACES] + [[thing] for thing in NO_PLACES]
        for thing in things:
            with self.assertRaises(NoPlace):
                hull(path(2), thing)
            with self.assertRaises(NoPlace):
                hull(bare(2), thing)

    def test_by_name_and_fresh(self):
        self.assertEqual(hull(places=[1], web=path(2)), [1])
        for places in ([], [0], [0, 2, 0], [3, 2, 1, 0]):
            check_fresh(self, hull, ring(4), places)


class HullSides(unittest.TestCase):
    def test_the_hull_in_the_product_is_the_rows_of_the_sides(self):
        chance = random.Random(3)
        lists = [
            [path(3), path(4)], [ring(5), path(3)], [SQUARE, path(3)], [full(4), ring(4)], [TAILED_RING, path(2)],
            [path(3), bare(1), ring(4)], [petersen(), path(2)], [path(2)] * 5, [ring(6), star(5)], [bare(1)], [LADDER],
        ]
        for webs in lists:
            web = product_by_words(webs)
            for size in (1, 2, 2, 2, 3, 3, 4):
                rows = [chance.choice(rows_by_order(webs)) for _ in range(size)]
                sides = hull_sides(webs, rows)
                awaited = [hull_by_words(own, [row[at] for row in rows]) for at, own in enumerate(webs)]
                check_kinds(self, sides, awaited)
                numbers = sorted(number_of(webs, list(row)) for row in itertools.product(*sides))
                check_kinds(self, numbers, hull_by_words(web, [number_of(webs, row) for row in rows]))

    def test_told(self):
        check_kinds(self, hull_sides([], [[]]), [])
        check_kinds(self, hull_sides([], [[], [], []]), [])
        check_kinds(self, hull_sides([bare(1)] * 12, [[0] * 12]), [[0]] * 12)
        check_kinds(self, hull_sides([path(40)] * 12, [[39] * 12, [37] * 12]), [[37, 38, 39]] * 12)
        check_kinds(self, hull_sides([path(3), ring(5)], [[2, 4], [0, 4], [2, 1]]), [[0, 1, 2], [0, 1, 4]])

    def test_any_order_and_several_times(self):
        webs = [ring(5), path(4)]
        rows = [[0, 1], [2, 3], [0, 0]]
        for order in itertools.permutations(rows):
            check_kinds(self, hull_sides(webs, list(order) * 3), [[0, 1, 2], [0, 1, 2, 3]])

    def test_refusals(self):
        for rows in (None, [], [[0]], [[None]]):
            check_hanging_webs(self, lambda webs, rows=rows: hull_sides(webs, rows))
        things = ODD + [
            [], [[0, 0, 0], [0, 0]], [[0, 0, 0], None], ([0, 0, 0],), [(0, 0, 0)], [0, 0, 0], [[[0, 0, 0]]],
            {0: [0, 0, 0]},
        ] + [[row] for row in NO_ROWS] + [[[0, 0, 0], row] for row in NO_ROWS]
        for thing in things:
            with self.assertRaises(NoPlace):
                hull_sides(TRIPLE, thing)
        for thing in ([], [[0]], [[], [0]], [()], (), [None]):
            with self.assertRaises(NoPlace):
                hull_sides([], thing)

    def test_by_name_and_fresh(self):
        self.assertEqual(hull_sides(rows=[[0], [1]], webs=[path(2)]), [[0, 1]])
        check_fresh(self, hull_sides, [path(3), path(3), ring(4)], [[0, 0, 1], [0, 0, 3], [0, 0, 1]])
        check_fresh(self, hull_sides, [], [[]])


if __name__ == "__main__":
    unittest.main()
