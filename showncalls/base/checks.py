"""Small checks and sums that all other modules share."""


def is_integer(value):
    """Whether a value is an integer; True and False are none."""
    return isinstance(value, int) and not isinstance(value, bool)


def is_number(value, size):
    """Whether a value is an integer from 0 on that is less than `size`."""
    return isinstance(value, int) and not isinstance(value, bool) and 0 <= value < size


def are_integers(values):
    """Whether all of some values are integers."""
    # A loop, since rows of numbers are asked about more often than anything else.
    for value in values:
        if type(value) != int:
            return False
    return True


def ascends(values):
    """Whether each of some values, of one kind, is less than the next one."""
    for at in range(len(values) - 1):
        if not values[at] < values[at + 1]:
            return False
    return True


def has_all_of(numbers, fewer):
    """Whether all items of a tuple are in another one, or among the keys of a dict."""
    return all([part in numbers for part in fewer])


def least_among(found):
    """The list of those of some tuples in which no other one of them is whole."""
    return [one for one in found if not any([other != one and has_all_of(one, other) for other in found])]


def product_of(numbers):
    """The product of some numbers, 1 if there are none."""
    total = 1
    for number in numbers:
        total = total * number
    return total


def all_rows(sizes):
    """The list of all tuples of numbers less than these sizes, in ascending order."""
    found = [()]
    for size in sizes:
        found = [row + (number,) for row in found for number in range(size)]
    return found
