"""Ways in a web: distances, shortest ways, pieces, the web within some places."""

from webtimes.errors import Apart, NoPlace
from webtimes.webs import beside_all, is_place, look_at_place, look_at_web


def far_from(beside, place):
    """Tell the distances of the place to all, from the lists of places tied to each."""
    far = [None for _ in beside]
    far[place] = 0
    steps = 0
    ring = [place]
    while ring:
        steps = steps + 1
        next_ring = []
        for here in ring:
            for there in beside[here]:
                if far[there] is None:
                    far[there] = steps
                    next_ring.append(there)
        ring = next_ring
    return far


def far_table(beside):
    """Tell the distances of each place to all, from the lists of places tied to each."""
    return [far_from(beside, place) for place in range(len(beside))]


def hangs(web):
    """Tell whether each two places have a way, of a web that is looked at already."""
    return None not in far_from(beside_all(web), 0)


def refuse_apart(webs):
    """Refuse with Apart where one of these, which are looked at already, is in several pieces."""
    for web in webs:
        if not hangs(web):
            raise Apart("the web doesn't hang together")


def look_at_hanging(thing):
    """Refuse what is no web with NoWeb, and a web in several pieces with Apart."""
    look_at_web(thing)
    refuse_apart([thing])


def look_at_all_hanging(things):
    """Refuse the first thing that is no web with NoWeb, then webs in several pieces with Apart."""
    for thing in things:
        look_at_web(thing)
    refuse_apart(things)


def distances(web, place):
    """Tell the distances of the place to all places, None where there is no way."""
    look_at_web(web)
    look_at_place(web, place)
    return far_from(beside_all(web), place)


def table(web):
    """Tell the distances of each place to all places."""
    look_at_web(web)
    return far_table(beside_all(web))


def shortest(web, one, other):
    """Tell the places of the shortest way whose each next place is the least, or None."""
    look_at_web(web)
    look_at_place(web, one)
    look_at_place(web, other)
    beside = beside_all(web)
    # Distances to the end tell at each place which next ones still are on a shortest way.
    far = far_from(beside, other)
    if far[one] is None:
        return None
    way = [one]
    while way[-1] != other:
        here = way[-1]
        way.append(min([place for place in beside[here] if far[place] < far[here]]))
    return way


def hangs_together(web):
    """Tell whether each two places of the web have a way."""
    look_at_web(web)
    return hangs(web)


def reached_from(beside, place):
    """Tell the places to which there are ways from the place, rising."""
    return [there for there, steps in enumerate(far_from(beside, place)) if steps is not None]


def pieces_by(beside):
    """Tell the lists of places that have ways to one another, from the lists of places tied to each."""
    seen = set()
    found = []
    for start in range(len(beside)):
        if start not in seen:
            piece = reached_from(beside, start)
            for place in piece:
                seen.add(place)
            found.append(piece)
    return found


def pieces(web):
    """Tell the lists of places that have ways to one another."""
    look_at_web(web)
    return pieces_by(beside_all(web))


def are_rising(web, thing):
    """Tell of anything whether it is a list of one or more places of the web, rising."""
    if not isinstance(thing, list) or not thing:
        return False
    if not all([is_place(web[0], place) for place in thing]):
        return False
    return all([thing[at - 1] < thing[at] for at in range(1, len(thing))])


def web_within(ties, places):
    """Tell the web of rising places and those of the ties that are between them."""
    numbers = {place: at for at, place in enumerate(places)}
    return (len(places), [(numbers[one], numbers[other]) for one, other in ties if one in numbers and other in numbers])


def within(web, places):
    """Tell the web of these places and the ties between them."""
    look_at_web(web)
    if not are_rising(web, places):
        raise NoPlace("no rising list of places of the web")
    return web_within(web[1], places)
