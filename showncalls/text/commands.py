"""What the commands of a shell tell, by their words alone."""

from showncalls.base.words import is_name
from showncalls.text.forms import read_line

LONGEST_NUMBER = 40

# What stands behind the first word of each command; all but a NAME goes up to the end of the line.
COMMANDS = {
    "new": ("NAME",),
    "copy": ("NAME", "NAME"),
    "drop": ("NAME",),
    "less": ("NAME", "NAME", "PART"),
    "text": ("NAME",),
    "left": ("NAME",),
    "know": ("NAME", "FACT"),
    "settled": ("NAME", "FACT"),
    "silent": ("NAME",),
    "alike": ("NAME", "NAME"),
    "nomore": ("NAME", "NAME"),
    "see": ("NAME", "LINE"),
    "back": ("NAME", "NUMBER"),
    "ask": ("NAME", "FACT"),
}


def read_command(command):
    """The tuple of the first word of a command and of what else it tells, or None if it is none.

    A part is told as a pair, a line as a tuple, a fact as the tuple of the pairs of a name and of a number or another
    name; the text below the line of a "new" is the last one of what it tells.
    """
    if not isinstance(command, str):
        return None
    head, newline, below = command.partition("\n")
    words = head.split(" ")
    if words[0] not in COMMANDS or (newline == "\n") != (words[0] == "new"):
        return None
    told = _told_by(COMMANDS[words[0]], words[1:])
    if told is None:
        return None
    text = (below,) if words[0] == "new" else ()
    return (words[0],) + told + text


def _told_by(kinds, words):
    """The tuple of what some words tell, one for each of these kinds, or None."""
    told = []
    for kind in kinds:
        piece = words[:1] if kind == "NAME" else words
        found = _piece_told(kind, piece)
        if found is None:
            return None
        told.append(found)
        words = words[len(piece):]
    return None if words else tuple(told)


def _piece_told(kind, words):
    """What some words tell, if they are a piece of this kind, otherwise None."""
    if kind == "LINE":
        return read_line(" ".join(words))
    if kind == "FACT":
        return _conditions_told(words)
    if kind == "PART":
        return tuple(words) if len(words) == 2 and words[0] in ("call", "word") and is_name(words[1]) else None
    if len(words) != 1:
        return None
    if kind == "NUMBER":
        return _number_told(words[0])
    return words[0] if is_name(words[0]) else None


def _conditions_told(words):
    """The tuple of the pairs of a name and of a number or another name that a fact text tells, or None."""
    conditions = [words[at:at + 4] for at in range(0, len(words), 4)]
    # All but the last one have an "and" behind them.
    ends = [condition[3:] for condition in conditions]
    if not words or ends != [["and"]] * (len(conditions) - 1) + [[]]:
        return None
    told = [_condition_told(condition[:3]) for condition in conditions]
    return None if None in told else tuple(told)


def _condition_told(words):
    if len(words) != 3 or not is_name(words[0]) or words[1] != "is":
        return None
    if is_name(words[2]):
        return (words[0], words[2])
    number = _number_told(words[2])
    return None if number is None else (words[0], number)


def _number_told(word):
    """The number that a word is, without leading zeros and not too long, or None."""
    if not 1 <= len(word) <= LONGEST_NUMBER or not all(["0" <= sign <= "9" for sign in word]):
        return None
    return None if len(word) > 1 and word[0] == "0" else int(word)
