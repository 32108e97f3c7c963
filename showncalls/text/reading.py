"""Reading the text of a program line by line, as far as each line has a form and can stand."""

from showncalls.base.checks import ascends
from showncalls.base.programs import Procedure, Program
from showncalls.base.statements import MOST_DEPTH
from showncalls.base.words import is_name
from showncalls.text.forms import read_head, read_pairs

# Of a body within that of a procedure, or within another statement.
INDENTATION = "  "
# Behind the first body of such a statement, this word is due.
DUE = {"if": "else", "either": "or"}


class Block:
    """A procedure, or a statement with inner bodies, as far as it has been read."""

    def __init__(self, head):
        self.head = head
        self.due = DUE.get(head[0])
        self.pairs = ()
        self.bodies = [[]]

    def whole(self):
        """The tuple of its head and of its bodies."""
        bodies = [[part.whole() if isinstance(part, Block) else part for part in body] for body in self.bodies]
        return self.head + tuple([tuple(body) for body in bodies])


class Reader:
    """The text of a program, as far as it has been read."""

    def __init__(self):
        self._cells = None
        self._read = []
        # The last procedure and those of its statements whose bodies go on, the outermost one first.
        self._around = []
        self._own_can_stand = False

    def takes(self, line):
        """Whether a line has a form and can stand here; then it has been read."""
        if self._cells is None:
            self._cells = read_pairs("shared", line)
            return self._cells is not None
        own_can_stand = self._own_can_stand
        self._own_can_stand = False
        text = line.lstrip(" ")
        indentation = len(line) - len(text)
        if indentation == 0:
            return own_can_stand and self._takes_own(line) or self._takes_procedure(line)
        level, odd = divmod(indentation, len(INDENTATION))
        if odd or level > len(self._around):
            return False
        return self._takes_due(text, level) or self._takes_statement(text, level)

    def can_end(self):
        """Whether the text can end here."""
        return self._closes(0) and len(self._read) > 0

    def has_ascending_cells(self):
        """Whether the names of the shared cells ascend."""
        return ascends([name for name, size in self._cells])

    def made_program(self):
        """The program whose text this is; it may be none."""
        procedures = []
        for block in self._read:
            word, name, body = block.whole()
            procedures.append(Procedure(name, body, own=block.pairs, quiet=word == "quiet"))
        return Program.of(dict(list(self._cells)), tuple(procedures))

    def _takes_procedure(self, line):
        words = line.split(" ")
        if len(words) != 2 or words[0] not in ("procedure", "quiet") or not is_name(words[1]) or not self._closes(0):
            return False
        block = Block((words[0], words[1]))
        self._read.append(block)
        self._around.append(block)
        self._own_can_stand = True
        return True

    def _takes_own(self, line):
        pairs = read_pairs("own", line)
        if not pairs:
            return False
        block = self._read[-1]
        block.pairs = pairs
        return True

    def _takes_due(self, text, level):
        """Whether this is the word that is due behind the first body of a statement on this level."""
        if text not in ("else", "or") or len(self._around) <= level or self._around[level].due != text:
            return False
        if not self._closes(level + 1):
            return False
        block = self._around[level]
        block.due = None
        block.bodies.append([])
        return True

    def _takes_statement(self, text, level):
        told = read_head(text)
        if told is None or level > MOST_DEPTH or not self._closes(level):
            return False
        body = self._around[-1].bodies[-1]
        if told[0] in ("if", "either", "often"):
            block = Block(told)
            body.append(block)
            self._around.append(block)
        else:
            body.append(told)
        return True

    def _closes(self, level):
        """Whether all statements from this level on can end here, since no word of theirs is due; then they do."""
        if len(self._around) > level:
            if any([block.due is not None for block in self._around[level:]]):
                return False
            del self._around[level:]
        return True
