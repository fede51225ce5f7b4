"""The classes of a web: the ties hung by all links that there are."""

from webtimes.chains import head_of, hung_by
from webtimes.links import corner_linked, far_linked
from webtimes.ways import far_table, look_at_hanging
from webtimes.webs import beside_all


def link_between(far, beside, tie, other):
    """Tell a link of the two ties, or None where there is none."""
    if far_linked(far, tie, other):
        return ("far", tie, other)
    if corner_linked(beside, tie, other):
        return ("corner", tie, other)
    return None


def hanging_links(web):
    """Tell links that hang the classes of a web that hangs together."""
    ties = web[1]
    beside = beside_all(web)
    far = far_table(beside)
    heads = {tie: tie for tie in ties}
    found = []
    for at, tie in enumerate(ties):
        for other in ties[:at]:
            head = head_of(heads, tie)
            other_head = head_of(heads, other)
            # A link within what hangs already adds nothing; so fewer than ties are kept.
            link = None if head == other_head else link_between(far, beside, other, tie)
            if link is not None:
                heads[head] = other_head
                found.append(link)
    return found


def links_of(web):
    """Tell links, fewer than there are ties, that hang the classes."""
    look_at_hanging(web)
    return hanging_links(web)


def classes(web):
    """Tell the lists of ties that all links hang."""
    look_at_hanging(web)
    return hung_by(web[1], hanging_links(web))
