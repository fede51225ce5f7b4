"""With which ties each tie is linked, of all ties at once: numbers of ties, and of places, stand as bits."""


def sides_of(beside, ties):
    """Tell for each place to which end of each tie it is nearer, of a web that hangs together.

    The bit of a tie tells of its one end, the bit as many behind as there are ties of its other end.
    """
    many = len(ties)
    reached = [0 for _ in beside]
    for at, (one, other) in enumerate(ties):
        reached[one] |= 1 << at
        reached[other] |= 1 << (many + at)
    first_ends = (1 << many) - 1
    whole = (1 << (2 * many)) - 1
    sides = [0 for _ in beside]
    # Step by step the ends come to all places at once; of two tied ends one is there a step ahead, or neither.
    while min(reached) < whole:
        ahead = []
        for place, here in enumerate(reached):
            if here != whole:
                odd = (here ^ here >> many) & first_ends
                sides[place] |= here & (odd | odd << many)
                for near in beside[place]:
                    here |= reached[near]
            ahead.append(here)
        reached = ahead
    return sides


def far_bits(beside, ties):
    """Tell for each tie of a web that hangs together the ties with which it is far-linked."""
    many = len(ties)
    first_ends = (1 << many) - 1
    sides = sides_of(beside, ties)
    # Two ties are far-linked just where the ends of the one aren't on the same side of the other.
    unlike = [sides[one] ^ sides[other] for one, other in ties]
    return [(bits | bits >> many) & first_ends for bits in unlike]


def near_bits(many, ties):
    """Tell for each place the places tied to it."""
    near = [0 for _ in range(many)]
    for one, other in ties:
        near[one] |= 1 << other
        near[other] |= 1 << one
    return near


def numbers_at(many, ties):
    """Tell for each place, by the places tied to it, the numbers of the ties."""
    numbers = [{} for _ in range(many)]
    for at, (one, other) in enumerate(ties):
        numbers[one][other] = at
        numbers[other][one] = at
    return numbers


def three_bits(near, numbers, ties):
    """Tell for each tie those of one ring of three with it, if there is one: these are far-linked."""
    bits = [0 for _ in ties]
    for at, (one, other) in enumerate(ties):
        both = near[one] & near[other]
        if both != 0:
            by = numbers[both.bit_length() - 1]
            bits[at] |= 1 << by[one] | 1 << by[other]
            bits[by[one]] |= 1 << at
            bits[by[other]] |= 1 << at
    return bits


def near_by_once(near, places):
    """Tell the places that are tied to just one of these places."""
    once = 0
    more = 0
    for place in places:
        more |= once & near[place]
        once |= near[place]
    return once ^ more


def corner_bits(near, numbers, ties):
    """Tell for each tie the ties with which it is corner-linked."""
    bits = [0 for _ in ties]
    for one, by_near in enumerate(numbers):
        # Just one place is tied to it and to each of these; each two are met at the greater one.
        left = near_by_once(near, by_near) & ((1 << one) - 1)
        while left != 0:
            other = left.bit_length() - 1
            left ^= 1 << other
            by = numbers[(near[one] & near[other]).bit_length() - 1]
            bits[by[one]] |= 1 << by[other]
            bits[by[other]] |= 1 << by[one]
    return bits


def joined(linked):
    """Tell pairs of linked ties, the lesser ahead, that hang what all links hang; and what they hang, as bits.

    Of what hangs with a tie one is taken that is linked with it, and so fewer pairs than ties.
    """
    pairs = []
    groups = []
    for at, bits in enumerate(linked):
        hung = 1 << at
        left = []
        for group in groups:
            met = group & bits
            if met == 0:
                left.append(group)
            else:
                hung |= group
                pairs.append(((met & -met).bit_length() - 1, at))
        left.append(hung)
        groups = left
    return (pairs, groups)


def lists_by(ties, groups):
    """Tell the lists of ties that the groups of bits tell, sorted."""
    return sorted([[tie for at, tie in enumerate(ties) if group >> at & 1] for group in groups])
