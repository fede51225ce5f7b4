"""Chains of links: the ties that they hang, and what shows a web prime."""

from webtimes.links import are_links
from webtimes.ways import look_at_hanging

MOST_LINKS = 120


def head_of(heads, tie):
    """Tell the tie that stands for all that hang with this one."""
    while heads[tie] != tie:
        # Each is led on by two, as chains would else grow long.
        heads[tie] = heads[heads[tie]]
        tie = heads[tie]
    return tie


def hung_by(ties, links):
    """Tell the lists of the rising ties that the links hang."""
    heads = {tie: tie for tie in ties}
    for _, tie, other in links:
        heads[head_of(heads, tie)] = head_of(heads, other)
    lists = {}
    # The ties rise, so each list is sorted, and the lists come by their first ties.
    for tie in ties:
        lists.setdefault(head_of(heads, tie), []).append(tie)
    return list(lists.values())


def makes_links(web, thing):
    """Tell of anything whether it is links of a web that hangs together."""
    return isinstance(thing, list) and len(thing) <= MOST_LINKS and are_links(web, thing)


def lets_links(web, thing):
    """Tell of anything whether it is links of the web."""
    look_at_hanging(web)
    return makes_links(web, thing)


def hung(web, links):
    """Tell the lists of ties that the links hang."""
    look_at_hanging(web)
    return hung_by(web[1], links)


def shows_prime(web, thing):
    """Tell of anything whether it is links that hang all ties of a web of two or more places."""
    look_at_hanging(web)
    # A web of one place has no ties, and so no list of them.
    return makes_links(web, thing) and len(hung_by(web[1], thing)) == 1
