import itertools
import unittest

from samples import (
    ASUNDER, HANGING, IN_PIECES, LADDER, NO_PLACES, ODD, WEBS, bare, check_fresh, check_kinds, check_no_web, full,
    many_ties, path, petersen, ring, star, table_by_words,
)
from webtimes.errors import NoPlace
from webtimes.ways import distances, hangs_together, pieces, shortest, table, within


def least_way(web, one, other):
    """The first, in the order of lists, of all shortest ways."""
    if one == other:
        return [one]
    far = table_by_words(web)
    if far[one][other] is None:
        return None
    steps = far[one][other] - 1
    for middle in itertools.product(range(web[0]), repeat=steps):
        way = [one, *middle, other]
        if all(far[a][b] == 1 for a, b in zip(way, way[1:])):
            return way
    raise AssertionError("no way of that many ties")


class Distances(unittest.TestCase):
    def test_all_places(self):
        for web in WEBS:
            far = table_by_words(web)
            for place in range(web[0]):
                check_kinds(self, distances(web, place), far[place])

    def test_told(self):
        self.assertEqual(distances(path(4), 1), [1, 0, 1, 2])
        self.assertEqual(distances(IN_PIECES, 4), [2, None, None, 2, 0, 1, None, None])
        self.assertEqual(distances(bare(1), 0), [0])

    def test_refusals(self):
        check_no_web(self, lambda web: distances(web, None))
        check_no_web(self, lambda web: distances(web, 0))
        for thing in NO_PLACES:
            with self.assertRaises(NoPlace):
                distances(path(2), thing)

    def test_by_name_and_fresh(self):
        self.assertEqual(distances(place=0, web=path(2)), [0, 1])
        check_fresh(self, distances, ring(6), 2)


class Table(unittest.TestCase):
    def test_all_webs(self):
        for web in WEBS:
            check_kinds(self, table(web), table_by_words(web))

    def test_told(self):
        self.assertEqual(table((3, [(0, 2)])), [[0, None, 1], [None, 0, None], [1, None, 0]])
        self.assertEqual(table(bare(1)), [[0]])

    def test_refusals(self):
        check_no_web(self, table)

    def test_by_name_and_fresh(self):
        self.assertEqual(table(web=path(2)), [[0, 1], [1, 0]])
        for web in (ring(6), bare(3), bare(1)):
            check_fresh(self, table, web)


class Shortest(unittest.TestCase):
    def test_all_pairs_of_small_webs(self):
        for web in [web for web in WEBS if web[0] <= 6] + [IN_PIECES]:
            for one in range(web[0]):
                for other in range(web[0]):
                    check_kinds(self, shortest(web, one, other), least_way(web, one, other))

    def test_each_next_place_is_the_least_that_will_do(self):
        for web in (many_ties(), petersen(), ring(40), full(16), path(40)):
            far = table_by_words(web)
            for one in range(web[0]):
                for other in range(web[0]):
                    way = shortest(web, one, other)
                    self.assertEqual((way[0], way[-1], len(way)), (one, other, far[one][other] + 1))
                    for here, there in zip(way, way[1:]):
                        will_do = [k for k in range(web[0]) if far[here][k] == 1 and far[k][other] < far[here][other]]
                        self.assertEqual(there, will_do[0])

    def test_told(self):
        self.assertEqual(shortest(ring(4), 0, 2), [0, 1, 2])
        self.assertEqual(shortest(ring(4), 3, 1), [3, 0, 1])
        # Of the ways backwards the least would be another one.
        web = (6, [(0, 2), (0, 3), (1, 3), (1, 4), (2, 5), (3, 5), (4, 5)])
        self.assertEqual(shortest(web, 0, 5), [0, 2, 5])
        self.assertEqual(shortest(web, 5, 0), [5, 2, 0])
        self.assertEqual(shortest(path(3), 1, 1), [1])
        self.assertIsNone(shortest(bare(2), 0, 1))
        self.assertEqual(shortest(bare(2), 1, 1), [1])

    def test_refusals(self):
        check_no_web(self, lambda web: shortest(web, None, None))
        check_no_web(self, lambda web: shortest(web, 0, 0))
        for thing in NO_PLACES:
            with self.assertRaises(NoPlace):
                shortest(bare(2), thing, 0)
            with self.assertRaises(NoPlace):
                shortest(bare(2), 1, thing)

    def test_by_name_and_fresh(self):
        self.assertEqual(shortest(other=0, one=2, web=path(3)), [2, 1, 0])
        check_fresh(self, shortest, ring(6), 0, 3)
        check_fresh(self, shortest, ring(6), 3, 3)


class HangsTogether(unittest.TestCase):
    def test_told(self):
        for web in HANGING:
            self.assertIs(hangs_together(web), True)
        for web in ASUNDER:
            self.assertIs(hangs_together(web), False)
        for web in ((3, [(0, 1)]), (3, [(0, 2)]), (3, [(1, 2)])):
            self.assertIs(hangs_together(web), False)

    def test_refusals(self):
        check_no_web(self, hangs_together)

    def test_by_name_and_nothing_changed(self):
        self.assertIs(hangs_together(web=path(2)), True)
        check_fresh(self, hangs_together, ring(5))


class Pieces(unittest.TestCase):
    def test_told(self):
        self.assertEqual(pieces(IN_PIECES), [[0, 3, 4, 5], [1], [2, 7], [6]])
        self.assertEqual(pieces(bare(3)), [[0], [1], [2]])
        self.assertEqual(pieces((5, [(0, 4), (1, 3)])), [[0, 4], [1, 3], [2]])
        for web in HANGING:
            check_kinds(self, pieces(web), [list(range(web[0]))])

    def test_all_webs_of_five_places(self):
        pairs = full(5)[1]
        for at in range(2 ** len(pairs)):
            web = (5, [pair for k, pair in enumerate(pairs) if at >> k & 1])
            far = table_by_words(web)
            lists = [[k for k in range(5) if far[place][k] is not None] for place in range(5)]
            awaited = [part for k, part in enumerate(lists) if part not in lists[:k]]
            self.assertEqual(pieces(web), sorted(awaited))
            self.assertIs(hangs_together(web), len(awaited) == 1)

    def test_refusals(self):
        check_no_web(self, pieces)

    def test_by_name_and_fresh(self):
        self.assertEqual(pieces(web=bare(2)), [[0], [1]])
        check_fresh(self, pieces, (5, [(0, 4), (1, 3)]))
        check_fresh(self, pieces, bare(4))


class Within(unittest.TestCase):
    def test_told(self):
        check_kinds(self, within(IN_PIECES, [0, 3, 5]), (3, [(0, 1), (0, 2), (1, 2)]))
        check_kinds(self, within(IN_PIECES, [2, 4, 5, 7]), (4, [(0, 3), (1, 2)]))
        check_kinds(self, within(ring(5), [4]), (1, []))
        check_kinds(self, within(ring(5), [0, 4]), (2, [(0, 1)]))
        check_kinds(self, within(bare(1), [0]), (1, []))

    def test_all_lists_of_places(self):
        for web in (full(5), ring(6), star(6), IN_PIECES, LADDER):
            for size in range(1, web[0] + 1):
                for places in itertools.combinations(range(web[0]), size):
                    ties = [(a, b) for a in range(size) for b in range(a + 1, size) if (places[a], places[b]) in web[1]]
                    check_kinds(self, within(web, list(places)), (size, ties))

    def test_whole_webs(self):
        for web in WEBS:
            check_kinds(self, within(web, list(range(web[0]))), web)

    def test_refusals(self):
        check_no_web(self, lambda web: within(web, None))
        check_no_web(self, lambda web: within(web, [0]))
        for thing in ODD:
            with self.assertRaises(NoPlace):
                within(path(2), thing)
        for thing in NO_PLACES:
            with self.assertRaises(NoPlace):
                within(path(2), [thing])
            with self.assertRaises(NoPlace):
                within(path(2), [0, thing])
        wrong = ([], (0, 1), (0,), [1, 0], [0, 0], [0, 1, 1], [0, 2, 1], [0, 1, 2, 3], [3], [-1, 0], [-1], [False, 1],
                 [0, True], [0, 1.0], ["0"], [[0]], {0: 1}, {0}, range(2), 0, None, "01", [0, 1, 0])
        for thing in wrong:
            with self.assertRaises(NoPlace):
                within(path(3), thing)

    def test_by_name_and_fresh(self):
        self.assertEqual(within(places=[1, 2], web=path(3)), (2, [(0, 1)]))
        check_fresh(self, within, ring(5), [0, 1, 4])
        check_fresh(self, within, ring(5), [0, 1, 2, 3, 4])
        check_fresh(self, within, bare(2), [1])


if __name__ == "__main__":
    unittest.main()
