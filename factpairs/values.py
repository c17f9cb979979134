"""What values of any kind are."""


def is_integer(value):
    """Whether any value is an integer: a bool is none."""
    return isinstance(value, int) and not isinstance(value, bool)


def is_number_below(value, many):
    """Whether any value is one of the numbers of so many things, from 0 on."""
    return is_integer(value) and 0 <= value < many


def is_pair_of(value, ones, others):
    """Whether any value is a pair of one of the ones and one of the others."""
    return isinstance(value, tuple) and len(value) == 2 and value[0] in ones and value[1] in others


def is_ascending(words):
    """Whether each of these strings is followed by greater ones only."""
    return all([word < later for word, later in zip(words, words[1:])])


def are_pairs(value, ones, others):
    """Whether any value is an ascending tuple of pairs of these people, nobody twice."""
    if not isinstance(value, tuple) or not all([is_pair_of(pair, ones, others) for pair in value]):
        return False
    # Ascending ones have nobody twice, and so their pairs ascend, too.
    taken = [pair[1] for pair in value]
    return is_ascending([pair[0] for pair in value]) and len(set(taken)) == len(taken)
