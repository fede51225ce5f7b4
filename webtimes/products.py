"""Products and powers of webs."""

from webtimes.errors import TooBig
from webtimes.rows import count_rows, count_ties, look_at_webs
from webtimes.webs import MOST_PLACES, MOST_TIES, look_at_web


def look_at_size(webs):
    """Refuse webs whose product would be no web with TooBig."""
    if count_rows(webs) > MOST_PLACES or count_ties(webs) > MOST_TIES:
        raise TooBig("a product of too many places or ties")


def multiplied(webs):
    """Tell the product of webs that are looked at already, perhaps of more than twelve."""
    look_at_size(webs)
    many = 1
    ties = []
    for own_many, own_ties in webs:
        # A row's number is that of its row of the webs so far, times this web's places, and its place in this one.
        across = [(one * own_many + at, other * own_many + at) for one, other in ties for at in range(own_many)]
        along = [(at * own_many + one, at * own_many + other) for at in range(many) for one, other in own_ties]
        many = many * own_many
        ties = sorted(across + along)
    return (many, ties)


def product(webs):
    """Tell the web whose places are the numbers of the rows, tied where the rows are."""
    look_at_webs(webs)
    return multiplied(webs)


def power(web, times=2):
    """Tell the product of that many of the web."""
    look_at_web(web)
    return multiplied([web for _ in range(times)])
