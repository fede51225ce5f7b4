import itertools
import unittest

from samples import (
    ASUNDER, HANGING, LADDER, ODD, PRODUCTS, SQUARE, Spiteful, bare, check_apart, check_fresh, check_no_web, full,
    many_ties, path, petersen, ring, star, table_by_words, turned_factoring,
)
from webtimes.layouts import lets_layout

CUBE_ROWS = [[0, 0, 0], [1, 0, 0], [1, 1, 0], [1, 1, 1], [0, 1, 1], [0, 0, 1]]


def is_layout_by_words(web, webs, rows):
    """Whether rows of the webs keep each distance."""
    far = table_by_words(web)
    tables = [table_by_words(own) for own in webs]
    pairs = itertools.product(range(web[0]), range(web[0]))
    return all(
        sum(table[a][b] for table, a, b in zip(tables, rows[one], rows[other])) == far[one][other]
        for one, other in pairs
    )


class Layouts(unittest.TestCase):
    def test_a_factoring_is_one(self):
        for webs in PRODUCTS:
            for seed in (1, 2):
                web, factoring = turned_factoring(webs, seed)
                self.assertIs(lets_layout(web, factoring), True)

    def test_each_web_by_itself(self):
        for web in HANGING:
            self.assertIs(lets_layout(web, ([web], [[place] for place in range(web[0])])), True)

    def test_all_rows_of_small_webs(self):
        cases = [
            (path(3), [path(2), path(2)]), (path(3), [path(4)]), (ring(3), [full(4)]), (path(2), [path(2), bare(1)]),
            (bare(1), [path(2), path(2)]), (SQUARE, [path(2), path(2)]), (path(3), [ring(3), path(2)]),
            (ring(3), [path(2), path(2)]), (path(2), [ring(4)]), (bare(1), []), (path(2), []),
        ]
        for web, webs in cases:
            found = 0
            own_rows = [list(row) for row in itertools.product(*[range(many) for many, _ in webs])]
            for rows in itertools.product(own_rows, repeat=web[0]):
                awaited = is_layout_by_words(web, webs, rows)
                self.assertIs(lets_layout(web, (webs, [list(row) for row in rows])), awaited)
                found += awaited
            self.assertEqual(found > 0, (web, webs) not in [(ring(3), [path(2), path(2)]), (path(2), [])])

    def test_told(self):
        self.assertIs(lets_layout(bare(1), ([], [[]])), True)
        self.assertIs(lets_layout(bare(1), ([bare(1)] * 3, [[0, 0, 0]])), True)
        self.assertIs(lets_layout(ring(6), ([path(2)] * 3, CUBE_ROWS)), True)
        self.assertIs(lets_layout(ring(6), ([path(2)] * 3, CUBE_ROWS[::-1])), True)
        self.assertIs(lets_layout(ring(6), ([path(2)] * 3, CUBE_ROWS[1:] + CUBE_ROWS[:1])), True)
        self.assertIs(lets_layout(ring(6), ([path(2)] * 3, CUBE_ROWS[1:2] + CUBE_ROWS[:1] + CUBE_ROWS[2:])), False)
        self.assertIs(lets_layout(path(6), ([path(2)] * 3, CUBE_ROWS)), False)
        # Places of one row, and rows whose distances are too great for one pair alone.
        self.assertIs(lets_layout(path(2), ([path(2)], [[0], [0]])), False)
        self.assertIs(lets_layout(ring(4), ([path(4)], [[0], [1], [2], [3]])), False)

    def test_places_that_stand_in_no_row(self):
        self.assertIs(lets_layout(path(3), ([path(40)], [[30], [31], [32]])), True)
        self.assertIs(lets_layout(path(3), ([ring(6), star(5)], [[5, 3], [0, 3], [1, 3]])), True)
        # A way in the layout's web by places that stand in no row is shorter.
        self.assertIs(lets_layout(path(5), ([ring(6)], [[0], [1], [2], [3], [4]])), False)
        self.assertIs(lets_layout(path(5), ([ring(8)], [[0], [1], [2], [3], [4]])), True)

    def test_more_than_twelve_webs(self):
        for many in (13, 20, 39, 40):
            rows = [[1] * place + [0] * (many - 1 - place) for place in range(many)]
            self.assertIs(lets_layout(path(many), ([path(2)] * (many - 1), rows)), True)
            self.assertIs(lets_layout(path(many), ([path(2)] * (many - 1), rows[:-2] + rows[:-3:-1])), False)

    def test_eighty_places_and_more(self):
        self.assertIs(lets_layout(path(2), ([path(2)] * 40, [[0] * 40, [0] * 39 + [1]])), True)
        self.assertIs(lets_layout(path(2), ([path(2)] * 40 + [bare(1)], [[0] * 41, [0] * 40 + [0]])), False)
        rows = [[0] * 41, [0] * 39 + [1, 0]]
        self.assertIs(lets_layout(path(2), ([path(2)] * 40 + [bare(1)], rows)), False)
        self.assertIs(lets_layout(path(2), ([path(2)] * 39 + [bare(1)] * 2, [[0] * 41, [0] * 38 + [1, 0, 0]])), True)
        self.assertIs(lets_layout(bare(1), ([bare(1)] * 80, [[0] * 80])), True)
        self.assertIs(lets_layout(bare(1), ([bare(1)] * 81, [[0] * 81])), False)
        self.assertIs(lets_layout(path(40), ([path(40), path(40)], [[place, 7] for place in range(40)])), True)
        big = [path(40), path(40), bare(1)]
        self.assertIs(lets_layout(path(40), (big, [[place, 7, 0] for place in range(40)])), False)
        self.assertIs(lets_layout(path(2), ([path(40), path(39), bare(1)], [[0, 0, 0], [0, 1, 0]])), True)
        self.assertIs(lets_layout(path(2), ([path(40), path(39), path(2)], [[0, 0, 0], [0, 1, 0]])), False)

    def test_webs_in_several_pieces(self):
        for web in ASUNDER:
            self.assertIs(lets_layout(bare(1), ([web], [[0]])), False)
            self.assertIs(lets_layout(path(2), ([path(2), web], [[0, 0], [1, 0]])), False)
            self.assertIs(lets_layout(path(2), ([web, path(2)], [[0, 0], [0, 1]])), False)

    def test_anything_else(self):
        two = [path(2)]
        good = [[0], [1]]
        things = [
            [two, good], (two,), (two, good, None), (two, (good)[:1]), (two, good + [[0]]), ((path(2),), good),
            (two, tuple(good)), (two, [(0,), (1,)]), (two, [[0], [True]]), (two, [[False], [1]]), (two, [[0], [1.0]]),
            (two, [[0], [2]]), (two, [[0], [-1]]), (two, [[0], [1, 0]]), (two, [[0], []]), (two, [0, 1]), (two, None),
            (None, good), (path(2), good), ([[2, [(0, 1)]]], good), ([(2, [(1, 0)])], good), ([None], good), (two, {}),
            ([], [[], []]), ([path(2), None], [[0, 0], [1, 0]]), (two, "01"), (two, [[0], Spiteful()]),
            (two, [[0], None]), ([Spiteful()], good), (two, [[0], [Spiteful()]]), ([path(2)] * 500, good),
            {0: two, 1: good}, ([None] * 500, good), (two, [[0], [1]] * 500),
        ]
        for thing in ODD + things:
            self.assertIs(lets_layout(path(2), thing), False, repr(thing)[:200])
        for thing in ODD:
            layout = repr(thing) in (repr(([], [[]])), repr(([bare(1)], [[0]])))
            self.assertIs(lets_layout(bare(1), thing), layout, repr(thing)[:200])
        self.assertIs(lets_layout(path(2), (two, good)), True)

    def test_refusals(self):
        for thing in (None, ([], [[]]), ([path(2)], [[0], [1]])):
            check_no_web(self, lambda web, thing=thing: lets_layout(web, thing))
            check_apart(self, lambda web, thing=thing: lets_layout(web, thing))

    def test_large_webs(self):
        for web in (petersen(), many_ties(), full(16), ring(40)):
            rows = [[place, 0] for place in range(web[0])]
            self.assertIs(lets_layout(web, ([web, path(40)], rows)), True)
            rows[-1] = [0, 1]
            self.assertIs(lets_layout(web, ([web, path(40)], rows)), False)

    def test_by_name_and_nothing_changed(self):
        self.assertIs(lets_layout(thing=([], [[]]), web=bare(1)), True)
        check_fresh(self, lets_layout, LADDER, ([path(3), path(2)], [[a, b] for a in range(3) for b in range(2)]))
        check_fresh(self, lets_layout, path(2), ([path(2)], [[0], [0]]))


if __name__ == "__main__":
    unittest.main()
