"""Nows as numbers, and sets of them as the bits of a number."""

from showncalls.base.checks import all_rows, are_integers


class Codes:
    """The nows of all procedures with own cells of some sizes as numbers, in their order.

    A state is a pair (standing, own), and its number is its index among all of them. For each place that is ahead of
    its own one, the number of a now is greater by that of all states. A begin has the number of the now right behind
    its enter, which is that of its state.
    """

    def __init__(self, standings, own_sizes):
        owns = all_rows(own_sizes)
        self._many_owns = len(owns)
        self._states = [(standing, own) for standing in standings for own in owns]
        # Found when they are asked for.
        self._state_codes = {}

    def many_states(self):
        """How many states there are."""
        return len(self._states)

    def many_owns(self):
        """How many of them there are with each standing."""
        return self._many_owns

    def states_told(self):
        """The list of the states, in their order."""
        return self._states

    def state_codes(self):
        """A dict from the states to their numbers."""
        if not self._state_codes:
            self._state_codes = {state: at for at, state in enumerate(self._states)}
        return self._state_codes

    def code_of(self, now):
        """The number of a now."""
        return now[0] * len(self._states) + self.state_codes()[now[1:]]

    def code_of_begin(self, begin):
        """The number of a begin."""
        return self.state_codes()[begin]

    def begin_read(self, value):
        """The number of a state that is told, or None if the value is none."""
        if type(value) != tuple or len(value) != 2 or type(value[0]) != tuple or type(value[1]) != tuple:
            return None
        # What equals a state may have a True in it, and what has a list in it cannot be looked up.
        return self.state_codes().get(value) if are_integers(value[0] + value[1]) else None

    def now_read(self, value):
        """The number of a now that is told, whatever places there are, or None if the value is none."""
        if type(value) != tuple or len(value) != 3 or type(value[0]) != int or value[0] < 0:
            return None
        state = self.begin_read(value[1:])
        return None if state is None else value[0] * len(self._states) + state

    def now_of(self, code):
        """The now with a number."""
        place, state = divmod(code, len(self._states))
        return (place,) + self._states[state]

    def state_of(self, code):
        """The state of the now with a number."""
        return self._states[code % len(self._states)]


def bits_of(mask):
    """The ascending list of the numbers of all bits of a number that are set."""
    found = []
    while mask:
        lowest = mask & -mask
        found.append(lowest.bit_length() - 1)
        mask = mask ^ lowest
    return found


def mask_of(numbers):
    """The number of which just these bits are set."""
    mask = 0
    for number in numbers:
        mask = mask | 1 << number
    return mask
