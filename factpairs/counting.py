"""In how many sequences choices can stand that keep an order.

`rest` is the mask of those of which it is asked, as if there were no others; `known` is a dict of what was
counted already, by such masks, that fills up by the way.
"""

from math import comb

from factpairs.orders import first_spots, last_spots, spots_in


def ways(order, rest, known):
    """In how many sequences the spots of this mask can stand."""
    if rest not in known:
        known[rest] = counted(order, rest, known)
    return known[rest]


def counted(order, rest, known):
    """What `ways` tells, by way of lesser masks."""
    if rest == 0:
        return 1
    part = tied(order, rest)
    if part != rest:
        # Those that nothing ties may mix in any way: only the places that this part takes are to be chosen.
        places = comb(len(spots_in(rest)), len(spots_in(part)))
        return places * ways(order, part, known) * ways(order, rest & ~part, known)
    first, last = first_spots(order, rest), last_spots(order, rest)
    ends = first if len(first) < len(last) else last
    return sum([ways(order, rest & ~(1 << at), known) for at in ends])


def tied(order, rest):
    """The mask of those of this mask that sayings tie to the first one, straight or by way of others of it."""
    part = 0
    reached = rest & -rest
    while reached != part:
        part = reached
        for at in spots_in(rest):
            near = (order[at] | 1 << at) & rest
            if near & reached != 0:
                reached = reached | near
    return part
