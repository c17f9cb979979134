"""All surely steady pairings of a book, and what is alike in them."""

from factpairs.errors import NoneSure, TooMany
from factpairs.orders import spots_in
from factpairs.pairings import Pairing
from factpairs.pairs import ascending, sorted_by_words, words_of
from factpairs.slates import best_pairs, struck_out, with_barred, with_bound

MOST_PAIRINGS = 200


def always(book):
    """The pairs that are together in all surely steady pairings: NoneSure."""
    slate = sure_slate(book)
    worst = best_pairs(slate, "others")
    # Whoever has the same partner in the best and in the worst pairing has no other one between them.
    return tuple([pair for pair in best_pairs(slate, "ones") if pair in worst])


def sometimes(book):
    """The pairs that are together in some surely steady pairing: NoneSure."""
    slate = sure_slate(book)
    found = {pair: True for pair in best_pairs(slate, "ones")}
    for one in book.ones:
        for other in slate.choices_left(one):
            if other != "" and (one, other) not in found:
                bound = with_bound(slate, one, other)
                if not bound.is_bare():
                    found.update({pair: True for pair in best_pairs(bound, "ones")})
    return ascending(list(found))


def lonely(book):
    """The persons who are alone in all surely steady pairings: NoneSure."""
    return Pairing(book, best_pairs(sure_slate(book), "ones")).alone


def every(book):
    """All surely steady Pairings, ascending by their pairs: NoneSure, TooMany."""
    told = {words_of([name for pair in pairs for name in pair]): pairs for pairs in every_pairs(book)}
    return tuple([Pairing(book, pairs) for pairs in sorted_by_words(told)])


def count(book):
    """How many surely steady Pairings there are: NoneSure, TooMany."""
    return len(every_pairs(book))


def steps(book):
    """A longest row of surely steady Pairings, from the best for the others to that for the ones: NoneSure, TooMany."""
    row = []
    for pairing in worst_first(every(book)):
        # Whatever is between two pairings stands between them here, too: so nothing is left out.
        if not row or is_better(places_of(pairing), places_of(row[-1])):
            row.append(pairing)
    return tuple(row)


def sure_slate(book):
    """The Slate on which no right strike is left: NoneSure(book) if somebody is left without any choice."""
    slate = struck_out(book, (), ())
    if slate.is_bare():
        raise NoneSure(book)
    return slate


def every_pairs(book):
    """The pairs of each surely steady pairing, in any sequence: NoneSure, TooMany."""
    found = []
    waiting = [sure_slate(book)]
    while waiting:
        slate = waiting.pop()
        best, worst = best_pairs(slate, "ones"), best_pairs(slate, "others")
        unlike = [pair for pair in best if pair not in worst]
        if unlike:
            # The first pair is in the best pairing and not in the worst: so neither slate is left bare.
            one, other = unlike[0]
            waiting.extend([with_barred(slate, one, other), with_bound(slate, one, other)])
        elif len(found) == MOST_PAIRINGS:
            raise TooMany(MOST_PAIRINGS)
        else:
            found.append(best)
    return found


def places_of(pairing):
    """How many choices each of the ones surely would rather have than whom they have."""
    book = pairing.book
    return [len(spots_in(book.orders[one][book.choices[one].index(pairing[one])])) for one in book.ones]


def worst_first(pairings):
    """The pairings, each behind all than which the ones would rather have it."""
    sums = [sum(places_of(pairing)) for pairing in pairings]
    most = max([int(places) for places in sums])
    return [pairing for total in reversed(range(most + 1))
            for pairing, places in zip(pairings, sums) if places == total]


def is_better(places, others):
    """Whether each of the ones is at the same place as in others, or ahead of it."""
    return all([place <= other for place, other in zip(places, others)])
