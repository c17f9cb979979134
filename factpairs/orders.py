"""What is surely liked ahead of what, as orders.

An order is a tuple of masks, one for each choice of a person: bit k of the mask at j is set if the choice
at k surely stands ahead of the one at j. An order always holds what follows, too: if k is ahead of j and
j ahead of i, k is ahead of i.
"""


def empty_order(many):
    """The order of so many choices of which nothing is known."""
    return (0,) * many


def all_spots(order):
    """The mask of all choices."""
    return (1 << len(order)) - 1


def is_ahead(order, first, second):
    """Whether the choice at `first` surely stands ahead of the one at `second`."""
    return order[second] >> first & 1 == 1


def spots_in(mask):
    """The numbers of the bits that are set in a mask, ascending."""
    return [at for at in range(mask.bit_length()) if mask >> at & 1 == 1]


def spots_behind(order, at):
    """The numbers of the choices ahead of which the one at `at` surely stands."""
    return [spot for spot in range(len(order)) if is_ahead(order, at, spot)]


def with_pair(order, first, second):
    """The order in which `first` stands ahead of `second`, too; None if that goes round."""
    if is_ahead(order, second, first):
        return None
    # Whatever stood behind `second` now stands behind all that is ahead of `first`: so nothing is left to follow.
    gained = order[first] | 1 << first
    moved = 1 << second | sum([1 << spot for spot in spots_behind(order, second)])
    return tuple([mask | gained if moved >> at & 1 == 1 else mask for at, mask in enumerate(order)])


def with_row(order, spots):
    """The order in which each of these spots stands ahead of the following one; None if that goes round."""
    for first, second in zip(spots, spots[1:]):
        order = with_pair(order, first, second)
        if order is None:
            return None
    return order


def keeps(order, spots):
    """Whether no spot in this row stands behind one that the order has behind it."""
    seen = 0
    for at in spots:
        if order[at] | seen != seen:
            return False
        seen = seen | 1 << at
    return True


def some_row(order):
    """The spots in one of the sequences that keep the order."""
    # Whoever is ahead of somebody has fewer ahead, so the numbers of those ahead ascend in a sequence that keeps it.
    many = [len(spots_in(mask)) for mask in order]
    spots = list(range(len(order)))
    return [at for ahead in spots for at in spots if many[at] == ahead]


def first_spots(order, rest):
    """The spots of this mask that none of it is surely ahead of, ascending: those that can stand first of them."""
    return [at for at in spots_in(rest) if order[at] & rest == 0]


def last_spots(order, rest):
    """The spots of this mask that are surely ahead of none of it, ascending: those that can stand last of them."""
    ahead = 0
    for at in spots_in(rest):
        ahead = ahead | order[at]
    return spots_in(rest & ~ahead)


def shared(order, other):
    """The order of what is sure in both."""
    return tuple([mask & more for mask, more in zip(order, other)])


def is_within(order, other):
    """Whether all that is sure in one order is sure in the other."""
    return all([mask | more == more for mask, more in zip(order, other)])


def nearest(order):
    """The pairs (first, second), first ahead of second and nothing between them, ascending."""
    spots = list(range(len(order)))
    return [(first, second) for first in spots for second in spots if is_next(order, first, second)]


def is_next(order, first, second):
    """Whether `first` surely stands ahead of `second`, and nothing between them."""
    if not is_ahead(order, first, second):
        return False
    return not any([is_ahead(order, first, spot) for spot in spots_in(order[second])])


def with_bit(order, first, second):
    """The order with the bit alone by which `first` stands ahead of `second`; what follows is not in it."""
    return tuple([mask | 1 << first if at == second else mask for at, mask in enumerate(order)])
