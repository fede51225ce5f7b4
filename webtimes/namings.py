"""Namings between webs: whether anything is one, renumbered webs, namings back and behind one another."""

from webtimes.errors import NoNaming
from webtimes.webs import as_tie, is_place, look_at_web


def has_each_place(many, thing):
    """Tell of anything whether it is a list with each of so many places just once."""
    if not isinstance(thing, list) or len(thing) != many:
        return False
    return all([is_place(many, place) for place in thing]) and len(set(thing)) == many


def makes_naming(one, other, thing):
    """Tell of anything whether it is a naming between two webs that are looked at already."""
    many, ties = one
    if other[0] != many or len(other[1]) != len(ties) or not has_each_place(many, thing):
        return False
    # As many ties on both sides: so where each leads to one, no tie of the other is left.
    known = {tie: True for tie in other[1]}
    return all([as_tie(thing[here], thing[there]) in known for here, there in ties])


def look_at_naming(one, other, thing):
    """Refuse what is no naming between the two webs with NoNaming."""
    if not makes_naming(one, other, thing):
        raise NoNaming("no naming from the one web to the other")


def lets_naming(one, other, thing):
    """Tell of anything whether it is a naming from the one web to the other."""
    look_at_web(one)
    look_at_web(other)
    return makes_naming(one, other, thing)


def renumbered(web, numbers):
    """Tell the web in which the place that was k is what stands at k."""
    look_at_web(web)
    if not has_each_place(web[0], numbers):
        raise NoNaming("no list with each place of the web once")
    return (web[0], sorted([as_tie(numbers[one], numbers[other]) for one, other in web[1]]))


def turned_back(naming):
    """Tell the naming from the other web to the one."""
    back = [0 for _ in naming]
    for place, led in enumerate(naming):
        back[led] = place
    return back


def behind(first, second):
    """Tell the naming that goes where the first leads, and from there where the second does."""
    return [second[place] for place in first]
