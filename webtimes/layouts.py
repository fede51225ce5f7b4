"""Layouts: webs, and a row of them for each place of a web, without a changed distance."""

from webtimes.rows import makes_row
from webtimes.ways import far_table, hangs, look_at_hanging
from webtimes.webs import beside_all, web_fault

MOST_LAID = 80


def are_laid(thing):
    """Tell of anything whether it is a list of webs that hang together, of few enough places."""
    # More webs than that have more places.
    if not isinstance(thing, list) or len(thing) > MOST_LAID:
        return False
    if not all([web_fault(web) is None and hangs(web) for web in thing]):
        return False
    return sum([web[0] for web in thing]) <= MOST_LAID


def keep_distances(far, tables, rows):
    """Tell whether the distance of each two places is that of their rows, by the tables of distances."""
    for one in range(len(rows)):
        sides = [table[place] for table, place in zip(tables, rows[one])]
        for other in range(one):
            if sum([side[place] for side, place in zip(sides, rows[other])]) != far[one][other]:
                return False
    return True


def lets_layout(web, thing):
    """Tell of anything whether it is a layout of the web."""
    look_at_hanging(web)
    if not isinstance(thing, tuple) or len(thing) != 2:
        return False
    webs, rows = thing
    if not are_laid(webs) or not isinstance(rows, list) or len(rows) != web[0]:
        return False
    if not all([makes_row(webs, row) for row in rows]):
        return False
    return keep_distances(far_table(beside_all(web)), [far_table(beside_all(own)) for own in webs], rows)
