"""The told factoring of a web, by its classes, and what tells it prime or parted."""

from webtimes.classes import hanging
from webtimes.ways import look_at_hanging, reached_from, web_within
from webtimes.webs import beside_all


def column_by(beside, places):
    """Tell for each place the number of the one of these places that is nearest to it."""
    column = [None for _ in beside]
    for number, place in enumerate(places):
        column[place] = number
    ring = places
    while ring:
        next_ring = []
        for here in ring:
            for there in beside[here]:
                if column[there] is None:
                    column[there] = column[here]
                    next_ring.append(there)
        ring = next_ring
    return column


def factored_by(web, lists):
    """Tell the factoring of a web that has a web for each of its classes."""
    many, ties = web
    beside = beside_all(web)
    factors = []
    columns = []
    for own_ties in lists:
        places = reached_from(beside_all((many, own_ties)), 0)
        factors.append(web_within(ties, places))
        # A way from any but the place told of has ties of this class besides: so that one is the nearest.
        columns.append(column_by(beside, places))
    return (factors, [[column[place] for column in columns] for place in range(many)])


def told_factoring(web):
    """Tell the told factoring of a web that hangs together."""
    return factored_by(web, hanging(web)[1])


def factored(web):
    """Tell the told factoring of the web."""
    look_at_hanging(web)
    return told_factoring(web)


def is_prime(web):
    """Tell whether the web has two or more places and no factoring of several webs."""
    look_at_hanging(web)
    return len(hanging(web)[1]) == 1


def prime_or_parted(web):
    """Tell one place alone, or links that show the web prime, or its told factoring."""
    look_at_hanging(web)
    links, lists = hanging(web)
    if not lists:
        return ("one",)
    if len(lists) == 1:
        return ("prime", links)
    return ("parted", factored_by(web, lists))
