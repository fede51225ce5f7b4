"""Colourings of webs: numbers for the places, unlike for tied ones."""

from webtimes.factors import told_factoring
from webtimes.keeping import look_at_primes
from webtimes.products import look_at_size
from webtimes.rows import count_rows, look_at_webs, numbered_row
from webtimes.ways import look_at_hanging
from webtimes.webs import beside_all, is_whole, look_at_web


def lets_colours(web, thing):
    """Tell of anything whether it is a colouring of the web."""
    look_at_web(web)
    many, ties = web
    if not isinstance(thing, list) or len(thing) != many:
        return False
    if not all([is_whole(colour) and colour >= 0 for colour in thing]):
        return False
    return all([thing[one] != thing[other] for one, other in ties])


def mixed_by(colourings, row, bound):
    """Tell the colour of a row: what its places have together, below the bound."""
    return sum([colouring[place] for colouring, place in zip(colourings, row)]) % bound


def mixed(webs, colourings):
    """Tell the colouring of the product to which colourings of the webs are mixed."""
    look_at_webs(webs)
    look_at_size(webs)
    bound = 1 + max([max(colouring) for colouring in colourings], default=0)
    rows = [numbered_row(webs, number) for number in range(count_rows(webs))]
    return [mixed_by(colourings, row, bound) for row in rows]


def coloured_from(beside, many, begun):
    """Tell a colouring with so many colours that begins so, or None."""
    at = len(begun)
    if at == len(beside):
        return begun
    taken = [begun[place] for place in beside[at] if place < at]
    # Of the colours that aren't used yet one is as good as another.
    for colour in range(min(many, 1 + max(begun, default=-1) + 1)):
        if colour not in taken:
            colouring = coloured_from(beside, many, begun + [colour])
            if colouring is not None:
                return colouring
    return None


def fewest_of(web):
    """Tell the least number of colours of a small web, and a colouring with these."""
    beside = beside_all(web)
    many = 1
    colouring = coloured_from(beside, many, [])
    while colouring is None:
        many = many + 1
        colouring = coloured_from(beside, many, [])
    return (many, colouring)


def fewest_colours(web):
    """Tell the least number of unlike colours of any colouring, and a colouring with these."""
    look_at_hanging(web)
    factors, rows = told_factoring(web)
    look_at_primes(factors)
    fewest = [fewest_of(factor) for factor in factors]
    # A factor with the most colours stands in the web as a layer; and as many do for all, mixed.
    bound = max([many for many, _ in fewest], default=1)
    colourings = [colouring for _, colouring in fewest]
    return (bound, [mixed_by(colourings, row, bound) for row in rows])
