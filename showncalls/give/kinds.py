"""Kinds: what is counted alike is counted once."""


def kinds_of(kinds, tell):
    """The coarsest kinds, from 0 on, that are as fine as these and in which all of a kind tell the same of the kinds of
    others: a dict like the one that is passed. What is told, of one and by all kinds, is a tuple."""
    many = 0
    while True:
        numbers = {}
        found = {}
        for one in kinds:
            told = (kinds[one],) + tell(one, kinds)
            found[one] = numbers.setdefault(told, len(numbers))
        if len(numbers) == many:
            return found
        many = len(numbers)
        kinds = found


def kinds_in(ones, kinds):
    """The ascending tuple of the kinds of some."""
    return (kinds[ones[0]],) if len(ones) == 1 else tuple(sorted([kinds[one] for one in ones]))


def shown_by(kinds):
    """The list of the first one of each kind, in the order of the kinds."""
    found = {}
    for one in kinds:
        found.setdefault(kinds[one], one)
    return [found[kind] for kind in sorted(found)]


def counted(ones):
    """A dict from some to how often they are there."""
    found = {}
    for one in ones:
        found[one] = found.get(one, 0) + 1
    return found
