"""The small webs that hang together, one of each kind."""

from webtimes.alike import naming_between


def grown(web):
    """Tell the webs that have one place more, tied to one or more of this web's."""
    many, ties = web
    webs = []
    for choice in range(1, 1 << many):
        added = [(place, many) for place in range(many) if choice >> place & 1]
        webs.append((many + 1, sorted(ties + added)))
    return webs


def is_unlike_all(webs, web):
    """Tell whether none of the webs is alike to this one."""
    for other in webs:
        if len(other[1]) == len(web[1]) and naming_between(other, web) is not None:
            return False
    return True


def one_of_each(webs):
    """Tell the first of the webs of each kind."""
    found = []
    for web in webs:
        if is_unlike_all(found, web):
            found.append(web)
    return found


def small_webs(places):
    """Tell all webs of so many places that hang together, one of each kind."""
    webs = [(1, [])]
    # What hangs together does so still without a place that is farthest from another one.
    for _ in range(1, places):
        webs = one_of_each([more for web in webs for more in grown(web)])
    return webs
