"""Hulls: the fewest closed places in which some places are."""

from webtimes.errors import NoPlace
from webtimes.rows import look_at_webs, makes_row
from webtimes.ways import far_table, refuse_apart
from webtimes.webs import beside_all, is_place, look_at_web


def lies_between(far, place, one, others):
    """Tell whether the place is on a shortest way from the one to any of the others, by the table of distances."""
    steps = far[one][place]
    if steps is None:
        return False
    for other in others:
        # What has a way to the place has one to the other, too, or neither has.
        if far[place][other] is not None and steps + far[place][other] == far[one][other]:
            return True
    return False


def hull_by(far, places):
    """Tell the hull of places, by the table of distances."""
    waiting = [place for place in range(len(far)) if place in places]
    left = [place for place in range(len(far)) if place not in places]
    inside = []
    while waiting:
        here = waiting.pop()
        found = [place for place in left if lies_between(far, place, here, inside)]
        left = [place for place in left if place not in found]
        waiting.extend(found)
        inside.append(here)
    return sorted(inside)


def look_at_places(web, thing):
    """Refuse what is no list of places of the web with NoPlace."""
    if not isinstance(thing, list) or not all([is_place(web[0], place) for place in thing]):
        raise NoPlace("no list of places of the web")


def hull(web, places):
    """Tell the fewest closed places in which all these are, rising."""
    look_at_web(web)
    look_at_places(web, places)
    return hull_by(far_table(beside_all(web)), places)


def look_at_rows(webs, thing):
    """Refuse what is no list of one or more rows of the webs with NoPlace."""
    if not isinstance(thing, list) or not thing or not all([makes_row(webs, row) for row in thing]):
        raise NoPlace("no list of one or more rows of the webs")


def hull_sides(webs, rows):
    """Tell for each web the hull of what stands for it in the rows."""
    look_at_webs(webs)
    refuse_apart(webs)
    look_at_rows(webs, rows)
    return [hull_by(far_table(beside_all(web)), [row[at] for row in rows]) for at, web in enumerate(webs)]
