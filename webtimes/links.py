"""Links: two ties that have one direction in every factoring."""

from webtimes.ways import far_table, look_at_hanging
from webtimes.webs import beside_all, joins_places, look_at_tie


def far_linked(far, tie, other):
    """Tell whether two ties are far-linked, from the table of distances."""
    x, y = tie
    u, v = other
    return far[x][u] + far[y][v] != far[x][v] + far[y][u]


def corner_linked(beside, tie, other):
    """Tell whether two ties are corner-linked, from the lists of places tied to each."""
    common = [place for place in tie if place in other]
    if len(common) != 1:
        return False
    one, two = [place for place in tie + other if place not in common]
    return [place for place in beside[one] if place in beside[two]] == common


def makes_link(ties, far, beside, thing):
    """Tell of anything whether it is a link of the web with these ties, a dict, that table and those lists."""
    if not isinstance(thing, tuple) or len(thing) != 3:
        return False
    word, tie, other = thing
    # Looked at ahead of `in`, as in is_tie.
    if not isinstance(word, str) or not joins_places(len(beside), tie) or not joins_places(len(beside), other):
        return False
    if tie not in ties or other not in ties:
        return False
    if word == "far":
        return far_linked(far, tie, other)
    return word == "corner" and corner_linked(beside, tie, other)


def are_links(web, things):
    """Tell of things, each of which may be anything, whether all are links of a web that hangs together."""
    ties = {tie: True for tie in web[1]}
    beside = beside_all(web)
    far = far_table(beside)
    return all([makes_link(ties, far, beside, thing) for thing in things])


def is_far(web, tie, other):
    """Tell whether the two ties are far-linked."""
    look_at_hanging(web)
    look_at_tie(web, tie)
    look_at_tie(web, other)
    return far_linked(far_table(beside_all(web)), tie, other)


def is_corner(web, tie, other):
    """Tell whether the two ties are corner-linked."""
    look_at_hanging(web)
    look_at_tie(web, tie)
    look_at_tie(web, other)
    return corner_linked(beside_all(web), tie, other)


def lets_link(web, thing):
    """Tell of anything whether it is a link of the web."""
    look_at_hanging(web)
    return are_links(web, [thing])
