"""Sequences that are kept as parts of parts: walks and logs share many of theirs, and may be very long."""


def spelled(pieces, parts):
    """The list of all pieces in their order, with those that have parts spelled out by these, in turn."""
    told = []
    waiting = list(pieces)[::-1]
    while waiting:
        piece = waiting.pop()
        if piece in parts:
            waiting.extend(list(parts[piece])[::-1])
        else:
            told.append(piece)
    return told
