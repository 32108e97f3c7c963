"""Cells, as dicts from their names to their sizes, and their standings."""

from showncalls.base.checks import all_rows, are_integers, ascends, is_integer, product_of
from showncalls.base.words import LARGEST_SIZE, is_name

SMALLEST_SIZE = 2
MOST_SHARED = 4
MOST_STANDINGS = 16


def is_size(value):
    """Whether a value can be the size of a cell."""
    return is_integer(value) and SMALLEST_SIZE <= value <= LARGEST_SIZE


def is_cells(value):
    """Whether a value can be the shared cells of a program."""
    if not isinstance(value, dict) or len(value) > MOST_SHARED:
        return False
    if not all([is_name(name) and is_size(value[name]) for name in value]):
        return False
    return product_of(list(value.values())) <= MOST_STANDINGS


def in_order(cells):
    """A copy of a dict of cells, ascending by their names."""
    return {name: cells[name] for name in sorted(cells)}


def with_own(shared, own):
    """A dict of shared cells and of own ones, given as pairs, ascending by their names."""
    own_cells = dict(own)
    return in_order({**shared, **own_cells})


def sizes_of(cells):
    """The tuple of the sizes of some cells, ascending by their names."""
    return tuple([cells[name] for name in sorted(cells)])


def standings_of(cells):
    """The ascending tuple of all standings of some cells."""
    # Not by the generator `rows`: operators need the standings, too, and nothing that they run may yield.
    return tuple(all_rows(sizes_of(cells)))


def is_row(sizes, value):
    """Whether a value is a tuple of numbers, each less than the size in its place."""
    if not isinstance(value, tuple) or len(value) != len(sizes) or not are_integers(value):
        return False
    for number, size in zip(value, sizes):
        if not 0 <= number < size:
            return False
    return True


def is_row_among(value, rows):
    """Whether a value is a tuple of integers that is a key of a dict."""
    # The integers are asked first: (True,) equals (1,) in Python, and a list cannot be looked up.
    return isinstance(value, tuple) and are_integers(value) and value in rows


def is_standings(cells, value):
    """Whether a value is an ascending tuple of standings of some cells."""
    sizes = sizes_of(cells)
    if not isinstance(value, tuple) or not all([is_row(sizes, row) for row in value]):
        return False
    return ascends(value)
