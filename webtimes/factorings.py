"""Factorings: webs, and a row of them for each place of a web."""

from webtimes.products import look_at_size
from webtimes.rows import MOST_WEBS, are_tied, count_rows, count_ties, look_at_webs, makes_row, numbered_row, row_number
from webtimes.webs import look_at_web, web_fault


def are_factors(thing):
    """Tell of anything whether it is a list of webs of two or more places each."""
    # A longer list of such webs has more rows than any web has places.
    if not isinstance(thing, list) or len(thing) > MOST_WEBS:
        return False
    return all([web_fault(web) is None and web[0] > 1 for web in thing])


def has_each_row(many, webs, thing):
    """Tell of anything whether it is a list of so many rows, each row of the webs once."""
    if not isinstance(thing, list) or len(thing) != many or count_rows(webs) != many:
        return False
    if not all([makes_row(webs, row) for row in thing]):
        return False
    return len({row_number(webs, row) for row in thing}) == many


def lets_factoring(web, thing):
    """Tell of anything whether it is a factoring of the web."""
    look_at_web(web)
    if not isinstance(thing, tuple) or len(thing) != 2:
        return False
    many, ties = web
    webs, rows = thing
    if not are_factors(webs) or not has_each_row(many, webs, rows):
        return False
    # As many ties on both sides: so where each tie has tied rows, no tied rows are left.
    if count_ties(webs) != len(ties):
        return False
    # The ties as keys, as they are asked for many times.
    known = [(own_many, {tie: True for tie in own_ties}) for own_many, own_ties in webs]
    return all([are_tied(known, rows[one], rows[other]) for one, other in ties])


def own_factoring(webs):
    """Tell the factoring of the product of the webs."""
    look_at_webs(webs)
    look_at_size(webs)
    factors = [(many, list(ties)) for many, ties in webs if many > 1]
    # Webs of one place change no row's number: so that of its row of the other webs is the same.
    return (factors, [numbered_row(factors, number) for number in range(count_rows(webs))])


def side_by_side(factorings):
    """Tell the factoring of a product that has the webs of all these factorings of its webs."""
    webs = []
    rows = [[]]
    for own_webs, own_rows in factorings:
        webs = webs + own_webs
        rows = [row + own_row for row in rows for own_row in own_rows]
    return (webs, rows)
