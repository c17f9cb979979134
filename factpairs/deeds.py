"""Deeds of halls as lines of a text."""

from factpairs.texts import choice_of

DIGITS = "0123456789"


def deed_in(line):
    """The tuple of a line of a deed, its word and what it is done with, or None if it has no such form."""
    word, *words = line.split(" ")
    # An empty word, as two blanks leave it, must not be taken for nobody.
    if "" in words:
        return None
    told = [choice_of(each) for each in words]
    if word == "say" and len(told) >= 3:
        return ("say", told[0], tuple(told[1:]))
    if word == "unsay" and len(words) == 1 and is_number(words[0]):
        return ("unsay", int(words[0]))
    if word in ("unite", "part") and len(told) == 2:
        return (word, *told)
    return ("settle",) if word == "settle" and not words else None


def is_number(word):
    """Whether a word is an integer from 0 on without zeros ahead."""
    return all([sign in DIGITS for sign in word]) and (word == "0" or word[0] != "0")


def do_deed(hall, deed):
    """Does on a hall what such a tuple tells: what the hall raises."""
    word, *told = deed
    if word == "say":
        hall.say(told[0], told[1])
    elif word == "unsay":
        hall.unsay(told[0])
    elif word == "unite":
        hall.unite(told[0], told[1])
    elif word == "part":
        hall.part(told[0], told[1])
    else:
        hall.settle()
