import unittest

from samples import (
    HANGING, ODD, Spiteful, bare, check_apart, check_fresh, check_no_web, full, path, petersen, ring, star,
    table_by_words, turned_factoring,
)
from webtimes.errors import NoPlace, NoWeb
from webtimes.layers import direction
from webtimes.links import is_corner, is_far, lets_link

DIAMOND = (4, [(0, 1), (0, 2), (1, 2), (1, 3), (2, 3)])
SMALL = [web for web in HANGING if web[0] <= 10] + [DIAMOND, turned_factoring([path(3), path(2)], 1)[0]]

# What is no tie of path(3).
NO_TIES_OF_PATH = ODD + [
    (1, 0), (2, 1), (0, 2), (2, 3), (-1, 0), (0, 0), [0, 1], "01", (0, 1, 2), (0,), (0, True), (False, 1), (0.0, 1),
    (0, 1.0), (True, 2), ("0", 1), (None, 1), (0, None), ([0], 1), ((0, 1),), ((0, 1), (1, 2)), {0: 1}, {0, 1},
    (Spiteful(), 1), (0, Spiteful()),
]


def far_by_words(web, tie, other):
    far = table_by_words(web)
    (x, y), (u, v) = tie, other
    return far[x][u] + far[y][v] != far[x][v] + far[y][u]


def corner_by_words(web, tie, other):
    common = set(tie) & set(other)
    if len(common) != 1:
        return False
    ends = (set(tie) | set(other)) - common

    def tied(a, b):
        return (min(a, b), max(a, b)) in web[1]
    return all(not all(tied(place, end) for end in ends) for place in range(web[0]) if place not in common)


class Linked(unittest.TestCase):
    def test_all_pairs_of_ties(self):
        for web in SMALL:
            for tie in web[1]:
                for other in web[1]:
                    far, corner = far_by_words(web, tie, other), corner_by_words(web, tie, other)
                    self.assertIs(is_far(web, tie, other), far)
                    self.assertIs(is_corner(web, tie, other), corner)
                    self.assertIs(lets_link(web, ("far", tie, other)), far)
                    self.assertIs(lets_link(web, ("corner", tie, other)), corner)

    def test_a_tie_with_itself(self):
        for web in HANGING:
            for tie in web[1][:5] + web[1][-5:]:
                self.assertIs(is_far(web, tie, tie), True)
                self.assertIs(is_corner(web, tie, tie), False)

    def test_told(self):
        # In a ring of four, ties over against one another are far-linked, and no corner is.
        square = ring(4)
        self.assertIs(is_far(square, (0, 1), (2, 3)), True)
        self.assertIs(is_far(square, (0, 1), (0, 3)), False)
        self.assertIs(is_corner(square, (0, 1), (0, 3)), False)
        self.assertIs(is_corner(path(3), (0, 1), (1, 2)), True)
        self.assertIs(is_far(path(3), (0, 1), (1, 2)), False)
        self.assertIs(is_corner(path(4), (0, 1), (2, 3)), False)
        self.assertIs(is_far(path(40), (0, 1), (38, 39)), False)
        self.assertIs(is_far(ring(40), (0, 1), (20, 21)), True)
        self.assertIs(is_corner(star(5), (0, 1), (0, 4)), True)
        # A triangle is a corner, and the place it has in common may stand in the way of none.
        self.assertIs(is_corner(ring(3), (0, 1), (0, 2)), True)
        self.assertIs(is_corner(full(4), (0, 1), (0, 2)), False)
        self.assertIs(is_corner(DIAMOND, (0, 1), (1, 3)), False)
        self.assertIs(is_corner(DIAMOND, (0, 1), (0, 2)), False)
        self.assertIs(is_corner(DIAMOND, (1, 2), (1, 3)), True)

    def test_big_webs(self):
        for web in (full(16), turned_factoring([full(4), petersen()], 4)[0]):
            for tie in web[1][::17]:
                for other in web[1][::11]:
                    self.assertIs(is_far(web, tie, other), far_by_words(web, tie, other))
                    self.assertIs(is_corner(web, tie, other), corner_by_words(web, tie, other))

    def test_linked_ties_have_one_direction(self):
        for webs in ([path(3), path(2)], [ring(4), ring(3)], [path(2)] * 4, [full(4), star(4)], [petersen(), path(2)]):
            web, factoring = turned_factoring(webs, 5)
            for tie in web[1]:
                for other in web[1][::3]:
                    if is_far(web, tie, other) or is_corner(web, tie, other):
                        self.assertEqual(direction(factoring, *tie), direction(factoring, *other))

    def test_anything_as_link(self):
        self.assertIs(lets_link(path(3), ("corner", (0, 1), (1, 2))), True)
        self.assertIs(lets_link(path(3), ("far", (0, 1), (0, 1))), True)
        wrong = [
            ["corner", (0, 1), (1, 2)], ("corner", (0, 1)), ("corner", (0, 1), (1, 2), (1, 2)), ("far", (0, 1), (1, 2)),
            ("corner", (0, 1), (0, 1)), ("corner", [0, 1], [1, 2]), ("Corner", (0, 1), (1, 2)), ("", (0, 1), (1, 2)),
            ("corner ", (0, 1), (1, 2)), (b"far", (0, 1), (0, 1)), (0, (0, 1), (0, 1)), (None, (0, 1), (0, 1)),
            (True, (0, 1), (0, 1)), (["far"], (0, 1), (0, 1)), (("far",), (0, 1), (0, 1)), ((0, 1), "far", (0, 1)),
            (Spiteful(), (0, 1), (0, 1)), ("fa", (0, 1), (0, 1)), ("near", (0, 1), (0, 1)), ("FAR", (0, 1), (0, 1)),
            {"far": (0, 1)}, "far", ("far", "far", "far"),
        ]
        for thing in ODD + wrong:
            self.assertIs(lets_link(path(3), thing), False)
            self.assertIs(lets_link(bare(1), thing), False)
        for thing in NO_TIES_OF_PATH:
            for word in ("far", "corner"):
                self.assertIs(lets_link(path(3), (word, thing, (0, 1))), False)
                self.assertIs(lets_link(path(3), (word, (1, 2), thing)), False)
                self.assertIs(lets_link(path(3), (word, thing, thing)), False)

    def test_refusals(self):
        for call in (
            lambda web: is_far(web, None, None), lambda web: is_far(web, (0, 1), (0, 1)),
            lambda web: is_corner(web, None, None), lambda web: is_corner(web, (0, 1), (0, 1)),
            lambda web: lets_link(web, None), lambda web: lets_link(web, ("far", (0, 1), (0, 1))),
        ):
            check_no_web(self, call)
            check_apart(self, call)

    def test_no_ties(self):
        for call in (is_far, is_corner):
            for thing in NO_TIES_OF_PATH:
                for ties in ((thing, (0, 1)), ((0, 1), thing), (thing, thing)):
                    with self.assertRaises(NoPlace):
                        call(path(3), *ties)
            with self.assertRaises(NoPlace):
                call(bare(1), (0, 1), (0, 1))
            with self.assertRaises(NoWeb):
                call((3, ((0, 1),)), (0, 1), (0, 1))

    def test_by_name_and_nothing_changed(self):
        self.assertIs(is_far(other=(0, 1), tie=(0, 1), web=path(3)), True)
        self.assertIs(is_corner(other=(0, 1), tie=(1, 2), web=path(3)), True)
        self.assertIs(lets_link(thing=("corner", (1, 2), (0, 1)), web=path(3)), True)
        check_fresh(self, is_far, ring(5), (0, 1), (2, 3))
        check_fresh(self, is_corner, ring(5), (0, 1), (1, 2))
        check_fresh(self, lets_link, ring(5), ("corner", (0, 1), (1, 2)))


if __name__ == "__main__":
    unittest.main()
