"""The fewest persons who settle all doubts, and as many doubts no two of which one person can settle."""


def fewest(settling):
    """(persons, doubts) for a dict that leads from each doubt to the one or two persons who can settle it."""
    # Whoever is the only one to settle a doubt has to; then of the others both can settle what is left.
    forced = {}
    for doubt, persons in settling.items():
        if len(persons) == 1:
            forced[persons[0]] = doubt
    left = [doubt for doubt in settling if not any([person in forced for person in settling[doubt]])]
    held = matched(left)
    reached = reached_from_free(left, held)
    # Each matched doubt gives one person: those who are reached could not leave theirs to another one.
    persons = [other if other in reached else one for other, one in held.items()]
    pairs = [(one, other) for other, one in held.items()]
    return list(forced) + persons, list(forced.values()) + pairs


def matched(doubts):
    """As many of these doubts (one, other) as can be, nobody in two of them: a dict from each other to the one."""
    held = {}
    for one in ones_in(doubts):
        is_given(doubts, one, held, {})
    return held


def is_given(doubts, one, held, seen):
    """Whether there is a doubt for this one, perhaps as others change theirs; then it stands in `held`."""
    for other in others_with(doubts, one):
        if other not in seen:
            seen[other] = True
            if other not in held or is_given(doubts, held[other], held, seen):
                held[other] = one
                return True
    return False


def reached_from_free(doubts, held):
    """The others, as a dict, that are reached from the ones without a doubt, by doubts there and matched ones back."""
    reached = {}
    taken = list(held.values())
    waiting = [one for one in ones_in(doubts) if one not in taken]
    while waiting:
        for other in others_with(doubts, waiting.pop()):
            if other not in reached:
                reached[other] = True
                waiting.append(held[other])
    return reached


def ones_in(doubts):
    """The ones who stand in these doubts, each once."""
    return list({doubt[0]: True for doubt in doubts})


def others_with(doubts, one):
    """The others who stand with this one in these doubts."""
    return [other for first, other in doubts if first == one]
