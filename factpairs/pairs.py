"""Pairs of one of the ones and one of the others: what they are, and whom they bring together."""


def is_pair_of(value, ones, others):
    """Whether any value is a pair of one of the ones and one of the others."""
    return isinstance(value, tuple) and len(value) == 2 and value[0] in ones and value[1] in others


def are_ascending_pairs(value, ones, others):
    """Whether any value is an ascending tuple of pairs of these people, each of whom may stand in several."""
    if not isinstance(value, tuple) or not all([is_pair_of(pair, ones, others) for pair in value]):
        return False
    return all([pair < later for pair, later in zip(value, value[1:])])


def are_pairs(value, ones, others):
    """Whether any value is an ascending tuple of pairs of these people, nobody twice."""
    if not are_ascending_pairs(value, ones, others):
        return False
    names = [name for pair in value for name in pair]
    return len(set(names)) == len(names)


def partners_of(persons, pairs):
    """A dict of whom each of these persons has by these pairs: "" for nobody."""
    partners = {person: "" for person in persons}
    for one, other in pairs:
        partners[one] = other
        partners[other] = one
    return partners


def pairs_of(ones, partners):
    """The pairs, ascending, of the ones with whom a dict tells that they have: "" for nobody."""
    return ascending([(one, partners[one]) for one in ones if partners[one] != ""])


def ascending(pairs):
    """The tuple of these unlike pairs, ascending."""
    return tuple(sorted_by_words({words_of(pair): pair for pair in pairs}))


def words_of(names):
    """A string for a row of names, such that strings ascend as the rows do."""
    # A blank is ahead of all letters, so a name stands ahead of all longer ones that begin with it.
    return " ".join(names)


def sorted_by_words(told):
    """The values of a dict of strings, by these."""
    return [told[words] for words in sorted([str(words) for words in told])]
