"""Nows as numbers, and sets of them as the bits of a number."""

from showncalls.base.checks import all_rows


class Codes:
    """The nows of a procedure as numbers, in their order. A begin has the number of the now right behind its enter."""

    def __init__(self, program, name):
        owns = all_rows([size for cell, size in program[name].own])
        self._states = [(standing, own) for standing in program._standings for own in owns]
        self._state_codes = {state: at for at, state in enumerate(self._states)}

    def code_of(self, now):
        """The number of a now."""
        return now[0] * len(self._states) + self._state_codes[now[1:]]

    def now_of(self, code):
        """The now with a number."""
        place, state = divmod(code, len(self._states))
        return (place,) + self._states[state]


def bits_of(mask):
    """The ascending list of the numbers of all bits of a number that are set."""
    found = []
    while mask:
        lowest = mask & -mask
        found.append(lowest.bit_length() - 1)
        mask = mask ^ lowest
    return found


def mask_of(numbers):
    """The number of which just these bits are set."""
    mask = 0
    for number in numbers:
        mask = mask | 1 << number
    return mask
