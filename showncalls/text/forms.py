"""The forms that single lines of texts have."""

from showncalls.base.checks import is_integer
from showncalls.base.words import is_name

# Pairs of a form and of what a line of this form tells; there a number is the index of a NAME or a DIGIT of the form.
LOG_FORMS = (
    ("enter NAME", ("enter", 0)),
    ("leave NAME", ("leave", 0)),
    ("ask NAME DIGIT", ("ask", 0, 1)),
    ("say NAME DIGIT", ("say", 0, 1)),
    ("say NAME", ("say", 0)),
)
# A "set" has forms of its own. The inner bodies of a statement are not in its line.
STATEMENT_FORMS = (
    ("hide NAME", ("hide", 0)),
    ("ask NAME NAME", ("ask", 0, 1)),
    ("say NAME NAME", ("say", 0, 1)),
    ("say NAME", ("say", 0, None)),
    ("call NAME", ("call", 0, None, None)),
    ("call NAME with NAME", ("call", 0, 1, None)),
    ("call NAME gives NAME", ("call", 0, None, 1)),
    ("call NAME with NAME gives NAME", ("call", 0, 1, 2)),
    ("if NAME is DIGIT", ("if", 0, 1)),
    ("either", ("either",)),
    ("often", ("often",)),
)
PROCEDURE_FORMS = (
    ("procedure NAME", ("procedure", 0)),
    ("quiet NAME", ("quiet", 0)),
)


def read_form(forms, line):
    """What a line tells by one of these forms, or None if it has none of them."""
    words = line.split(" ")
    for form, wanted in forms:
        told = _told(words, form.split(" "), wanted)
        if told is not None:
            return told
    return None


def write_form(forms, told):
    """The line that tells this by one of these forms."""
    for form, wanted in forms:
        if _is_told_by(told, wanted):
            return _filled(form.split(" "), [part for part in told[1:] if part is not None])
    return ""


def read_set(line):
    """What the line of a "set" tells, or None if it has not this form."""
    words = line.split(" ")
    many = len([word for word in words if not is_digit(word)])
    # If a digit stands ahead of other words, it is among these names, and is none.
    names, digits = words[:many], words[many:]
    if not digits or not all([is_name(word) for word in names]):
        return None
    if len(names) < 3 or names[0] != "set" or names[-1] != "to":
        return None
    keys = names[2:-1]
    if keys and (keys[0] != "by" or not 2 <= len(keys) <= 3):
        return None
    return ("set", names[1], tuple(keys[1:]), tuple([int(word) for word in digits]))


def write_set(told):
    """The line of a "set"."""
    cell, keys, table = told[1:]
    by = ["by", *keys] if keys else []
    return " ".join(["set", cell, *by, "to", *[str(number) for number in table]])


def read_pairs(word, line):
    """The tuple of the pairs of a name and a digit behind a word, or None if the line has not this form."""
    if line == word:
        return ()
    if not line.startswith(word + " "):
        return None
    texts = line[len(word) + 1:].split(", ")
    pairs = [_told(text.split(" "), ["NAME", "DIGIT"], (0, 1)) for text in texts]
    return None if None in pairs else tuple(pairs)


def write_pairs(word, pairs):
    """The line of some pairs of a name and a size behind a word."""
    told = ", ".join([f"{name} {size}" for name, size in pairs])
    return f"{word} {told}" if told else word


def is_digit(word):
    """Whether a word is a single digit."""
    return len(word) == 1 and "0" <= word <= "9"


def _told(words, form, wanted):
    """What some words tell if they have a form, otherwise None."""
    if len(words) != len(form):
        return None
    values = []
    for word, due in zip(words, form):
        if due == "NAME" and is_name(word):
            values.append(word)
        elif due == "DIGIT" and is_digit(word):
            values.append(int(word))
        elif word != due or due in ("NAME", "DIGIT"):
            return None
    return tuple([values[part] if is_integer(part) else part for part in wanted])


def _is_told_by(told, wanted):
    """Whether what a line tells is what lines of a form tell."""
    if len(told) != len(wanted) or told[0] != wanted[0]:
        return False
    return all([(told[at] is None) == (wanted[at] is None) for at in range(len(told))])


def _filled(form, values):
    """The line of a form with these values, in their order."""
    words = []
    filled = 0
    for word in form:
        if word in ("NAME", "DIGIT"):
            words.append(str(values[filled]))
            filled += 1
        else:
            words.append(word)
    return " ".join(words)
