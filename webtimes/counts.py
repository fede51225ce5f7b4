"""Distances, ways, walks and rings of a product, told from its webs alone."""

from math import comb

from webtimes.rows import count_rows, look_at_row, look_at_webs
from webtimes.ways import far_from, far_table
from webtimes.webs import beside_all


def far_apart(webs, one, other):
    """Tell the distance of two rows, None where there is no way."""
    total = 0
    for web, here, there in zip(webs, one, other):
        steps = far_from(beside_all(web), here)[there]
        if steps is None:
            return None
        total = total + steps
    return total


def far(webs, one, other):
    """Tell the distance of two rows, None where there is no way."""
    look_at_webs(webs)
    look_at_row(webs, one)
    look_at_row(webs, other)
    return far_apart(webs, one, other)


def shortest_ways(web, one, other):
    """Tell the distance of two places and how many shortest ways there are, (0, 0) where there is none."""
    beside = beside_all(web)
    steps_to = far_from(beside, one)
    if steps_to[other] is None:
        return (0, 0)
    ways = {one: 1}
    for step in range(steps_to[other]):
        ahead = {}
        for here, many in ways.items():
            for there in beside[here]:
                if steps_to[there] == step + 1:
                    ahead[there] = ahead.get(there, 0) + many
        ways = ahead
    return (steps_to[other], ways[other])


def count_ways(webs, one, other):
    """Tell how many shortest ways lead from one row to another."""
    steps = 0
    total = 1
    for web, here, there in zip(webs, one, other):
        own_steps, many = shortest_ways(web, here, there)
        steps = steps + own_steps
        # The steps in this web may stand anywhere between those in the webs so far.
        total = total * many * comb(steps, own_steps)
    return total


def ways_many(webs, one, other):
    """Tell how many shortest ways lead from one row to another."""
    look_at_webs(webs)
    look_at_row(webs, one)
    look_at_row(webs, other)
    return count_ways(webs, one, other)


def walks_between(web, one, other, steps):
    """Tell a list: at k how many walks of k steps lead from one place to another, up to so many steps."""
    beside = beside_all(web)
    walks = [0 for _ in beside]
    walks[one] = 1
    told = [walks[other]]
    for _ in range(steps):
        walks = [sum([walks[near] for near in nears]) for nears in beside]
        told.append(walks[other])
    return told


def walks_many(webs, one, other, steps=1):
    """Tell how many walks of so many steps lead from one row to another."""
    look_at_webs(webs)
    look_at_row(webs, one)
    look_at_row(webs, other)
    total = walks_between((1, []), 0, 0, steps)
    for web, here, there in zip(webs, one, other):
        own = walks_between(web, here, there, steps)
        # Of k steps some are in this web, and stand anywhere between the others.
        total = [sum([comb(k, at) * own[at] * total[k - at] for at in range(k + 1)]) for k in range(steps + 1)]
    return total[steps]


def spread_of(web, place):
    """Tell a list: at k how many places are at distance k from the place."""
    steps_to = [steps for steps in far_from(beside_all(web), place) if steps is not None]
    return [steps_to.count(steps) for steps in range(max(steps_to) + 1)]


def count_by_distance(webs, row):
    """Tell a list: at k how many rows are at distance k from the row."""
    total = [1]
    for web, place in zip(webs, row):
        own = spread_of(web, place)
        longer = [0 for _ in range(len(total) + len(own) - 1)]
        for steps, many in enumerate(total):
            for own_steps, own_many in enumerate(own):
                longer[steps + own_steps] += many * own_many
        total = longer
    return total


def by_distance(webs, row):
    """Tell a list: at k how many rows are at distance k from the row."""
    look_at_webs(webs)
    look_at_row(webs, row)
    return count_by_distance(webs, row)


def widest(webs):
    """Tell the greatest distance of any two rows, None where two have none."""
    look_at_webs(webs)
    total = 0
    for web in webs:
        table = far_table(beside_all(web))
        if None in table[0]:
            return None
        total = total + max([max(steps_to) for steps_to in table])
    return total


def own_threes(web):
    """Tell how many rings of three a web has."""
    beside = beside_all(web)
    third = [place for one, other in web[1] for place in beside[one] if place in beside[other]]
    # Each ring is met at each of its ties.
    return len(third) // 3


def threes(webs):
    """Tell how many rings of three the product has."""
    look_at_webs(webs)
    rows = count_rows(webs)
    # A ring of three stays in one web, and stands still in the others.
    return sum([own_threes(web) * (rows // web[0]) for web in webs])


def own_fours(web):
    """Tell how many rings of four a web has."""
    beside = beside_all(web)
    total = 0
    for other in range(web[0]):
        for one in range(other):
            both = len([place for place in beside[one] if place in beside[other]])
            total = total + comb(both, 2)
    # Each ring is met at each of its two pairs of places that face each other.
    return total // 2


def fours(webs):
    """Tell how many rings of four the product has."""
    look_at_webs(webs)
    rows = 1
    ties = 0
    total = 0
    for web in webs:
        many, here = web
        # A ring stays in the webs so far, or in this one, or goes by a tie of both, there and back.
        total = total * many + rows * own_fours(web) + ties * len(here)
        ties = ties * many + rows * len(here)
        rows = rows * many
    return total
