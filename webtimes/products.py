"""Products and powers of webs."""

from webtimes.errors import TooBig
from webtimes.rows import count_rows, count_ties, look_at_webs, numbered_row, row_number, tied_rows
from webtimes.webs import MOST_PLACES, MOST_TIES, look_at_web


def look_at_size(webs):
    """Refuse webs whose product would be no web with TooBig."""
    if count_rows(webs) > MOST_PLACES or count_ties(webs) > MOST_TIES:
        raise TooBig("a product of too many places or ties")


def multiplied(webs):
    """Tell the product of webs that are looked at already, perhaps of more than twelve."""
    look_at_size(webs)
    many = count_rows(webs)
    ties = []
    for one in range(many):
        for row in tied_rows(webs, numbered_row(webs, one)):
            other = row_number(webs, row)
            if one < other:
                ties.append((one, other))
    return (many, ties)


def product(webs):
    """Tell the web whose places are the numbers of the rows, tied where the rows are."""
    look_at_webs(webs)
    return multiplied(webs)


def power(web, times=2):
    """Tell the product of that many of the web."""
    look_at_web(web)
    return multiplied([web for _ in range(times)])
