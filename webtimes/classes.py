"""The classes of a web: the ties hung by all links that there are."""

from webtimes.linked import corner_bits, far_bits, joined, lists_by, near_bits, numbers_at, three_bits
from webtimes.ways import look_at_hanging
from webtimes.webs import beside_all


def both_of(far, corner):
    """Tell for each tie the ties with which it is linked in either way."""
    return [one | other for one, other in zip(far, corner)]


def hanging(web):
    """Tell links that hang the classes of a web that hangs together, and the classes."""
    many, ties = web
    near = near_bits(many, ties)
    numbers = numbers_at(many, ties)
    far = three_bits(near, numbers, ties)
    corner = corner_bits(near, numbers, ties)
    linked = both_of(far, corner)
    # Of most primes these hang all ties already, and no distances are asked for.
    pairs, groups = joined(linked) if 0 not in linked else ([], [])
    if len(groups) != 1:
        far = far_bits(beside_all(web), ties)
        pairs, groups = joined(both_of(far, corner))
    links = [("far" if far[at] >> first & 1 else "corner", ties[first], ties[at]) for first, at in pairs]
    return (links, lists_by(ties, groups))


def links_of(web):
    """Tell links, fewer than there are ties, that hang the classes."""
    look_at_hanging(web)
    return hanging(web)[0]


def classes(web):
    """Tell the lists of ties that all links hang."""
    look_at_hanging(web)
    return hanging(web)[1]
