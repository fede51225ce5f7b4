"""Ways in a web: distances, shortest ways, pieces, the web within some places."""

from webtimes.errors import Apart, NoPlace
from webtimes.webs import beside_all, is_place, look_at_place, look_at_web


def far_from(beside, place):
    """Tell the distances of the place to all, from the lists of places tied to each."""
    far = [None for _ in beside]
    far[place] = 0
    ring = [place]
    while ring:
        next_ring = []
        for here in ring:
            for there in beside[here]:
                if far[there] is None:
                    far[there] = far[here] + 1
                    next_ring.append(there)
        ring = next_ring
    return far


def far_table(beside):
    """Tell the distances of each place to all, from the lists of places tied to each."""
    return [far_from(beside, place) for place in range(len(beside))]


def look_at_hanging(thing):
    """Refuse what is no web with NoWeb, and a web in several pieces with Apart."""
    if not hangs_together(thing):
        raise Apart("the web doesn't hang together")


def look_at_all_hanging(things):
    """Refuse the first thing that is no web with NoWeb, then webs in several pieces with Apart."""
    for thing in things:
        look_at_web(thing)
    for web in things:
        look_at_hanging(web)


def distances(web, place):
    """Tell the distances of the place to all places, None where there is no way."""
    look_at_web(web)
    look_at_place(web, place)
    return far_from(beside_all(web), place)


def table(web):
    """Tell the distances of each place to all places."""
    look_at_web(web)
    return far_table(beside_all(web))


def shortest(web, one, other):
    """Tell the places of the shortest way whose each next place is the least, or None."""
    look_at_web(web)
    look_at_place(web, one)
    look_at_place(web, other)
    beside = beside_all(web)
    # Distances to the end tell at each place which next ones still are on a shortest way.
    far = far_from(beside, other)
    if far[one] is None:
        return None
    way = [one]
    while way[-1] != other:
        here = way[-1]
        way.append(min([place for place in beside[here] if far[place] < far[here]]))
    return way


def hangs_together(web):
    """Tell whether each two places of the web have a way."""
    look_at_web(web)
    return None not in far_from(beside_all(web), 0)


def pieces(web):
    """Tell the lists of places that have ways to one another."""
    look_at_web(web)
    beside = beside_all(web)
    seen = set()
    found = []
    for start in range(web[0]):
        if start not in seen:
            far = far_from(beside, start)
            piece = [place for place in range(web[0]) if far[place] is not None]
            for place in piece:
                seen.add(place)
            found.append(piece)
    return found


def are_rising(web, thing):
    """Tell of anything whether it is a list of one or more places of the web, rising."""
    if not isinstance(thing, list) or not thing:
        return False
    if not all([is_place(web[0], place) for place in thing]):
        return False
    return all([thing[at - 1] < thing[at] for at in range(1, len(thing))])


def within(web, places):
    """Tell the web of these places and the ties between them."""
    look_at_web(web)
    if not are_rising(web, places):
        raise NoPlace("no rising list of places of the web")
    numbers = {place: at for at, place in enumerate(places)}
    ties = [(numbers[one], numbers[other]) for one, other in web[1] if one in numbers and other in numbers]
    return (len(places), ties)
