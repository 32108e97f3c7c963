"""The forms that single lines of texts have."""

from showncalls.base.words import is_name


def read_line(text):
    """The line of a log that a line of a text tells, or None if it has not the form of one."""
    words = text.split(" ")
    if len(words) == 2 and words[0] in ("enter", "leave", "say") and is_name(words[1]):
        return (words[0], words[1])
    if len(words) == 3 and words[0] in ("ask", "say") and is_name(words[1]) and is_digit(words[2]):
        return (words[0], words[1], int(words[2]))
    return None


def write_line(line):
    """The line of a text that tells a line of a log."""
    return " ".join([str(part) for part in line])


def read_head(text):
    """The statement, without its inner bodies, that a line tells, or None if it has not the form of one."""
    words = text.split(" ")
    kind, many = words[0], len(words)
    if many == 1:
        return (kind,) if kind in ("either", "often") else None
    if not is_name(words[1]):
        return None
    if kind == "set":
        return _read_set(words)
    if kind == "call":
        return _read_call(words)
    if kind == "if":
        return ("if", words[1], int(words[3])) if many == 4 and words[2] == "is" and is_digit(words[3]) else None
    if many == 2:
        return ("say", words[1], None) if kind == "say" else ("hide", words[1]) if kind == "hide" else None
    return (kind, words[1], words[2]) if many == 3 and kind in ("ask", "say") and is_name(words[2]) else None


def write_head(statement):
    """The line of a statement, without those of its inner bodies."""
    kind = statement[0]
    if kind == "say" and statement[2] is None:
        return f"say {statement[1]}"
    if kind in ("say", "ask"):
        return f"{kind} {statement[1]} {statement[2]}"
    if kind == "set":
        by = ["by", *statement[2]] if statement[2] else []
        return " ".join(["set", statement[1], *by, "to", *[str(number) for number in statement[3]]])
    if kind == "call":
        passed = "" if statement[2] is None else f" with {statement[2]}"
        given = "" if statement[3] is None else f" gives {statement[3]}"
        return f"call {statement[1]}{passed}{given}"
    if kind == "if":
        return f"if {statement[1]} is {statement[2]}"
    return f"hide {statement[1]}" if kind == "hide" else kind


def read_pairs(word, line):
    """The tuple of the pairs of a name and a digit behind a word, or None if the line has not this form."""
    if line == word:
        return ()
    if not line.startswith(word + " "):
        return None
    pairs = []
    for text in line[len(word) + 1:].split(", "):
        words = text.split(" ")
        if len(words) != 2 or not is_name(words[0]) or not is_digit(words[1]):
            return None
        pairs.append((words[0], int(words[1])))
    return tuple(pairs)


def write_pairs(word, pairs):
    """The line of some pairs of a name and a size behind a word."""
    told = ", ".join([f"{name} {size}" for name, size in pairs])
    return f"{word} {told}" if told else word


def is_digit(word):
    """Whether a word is a single digit."""
    return len(word) == 1 and "0" <= word <= "9"


def _read_set(words):
    """The "set" that some words tell, the first two of which are "set" and a name, or None."""
    by = 0
    if words[2:3] == ["by"]:
        # One or two names stand behind it; any of them may be "to", too.
        by = 3 if words[5:6] == ["to"] else 2
    keys, digits = words[3:2 + by], words[3 + by:]
    if words[2 + by:3 + by] != ["to"] or not digits or not all([is_digit(word) for word in digits]):
        return None
    if not all([is_name(word) for word in keys]):
        return None
    return ("set", words[1], tuple(keys), tuple([int(word) for word in digits]))


def _read_call(words):
    """The "call" that some words tell, the first two of which are "call" and a name, or None."""
    passed = given = None
    following = words[2:]
    if following[:1] == ["with"] and len(following) > 1:
        passed, following = following[1], following[2:]
    if following[:1] == ["gives"] and len(following) > 1:
        given, following = following[1], following[2:]
    if following or not all([name is None or is_name(name) for name in (passed, given)]):
        return None
    return ("call", words[1], passed, given)
