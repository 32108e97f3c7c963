"""Whether procedures fit together as a program, beyond the form of each one."""

from showncalls.base.cells import with_own
from showncalls.base.checks import product_of

MOST_PROCEDURES = 8
MOST_ROWS = 64


def fit_together(shared, procedures):
    """Whether these procedures, the main one first, make up a program with these shared cells."""
    if not 1 <= len(procedures) <= MOST_PROCEDURES or procedures[0].quiet:
        return False
    if len({procedure.called for procedure in procedures}) < len(procedures):
        return False
    # For each procedure that can be called: the size of the cell that takes and gives numbers, if there is one.
    passed = {procedure.called: procedure.own[0][1] if procedure.own else None for procedure in procedures[1:]}
    sizes = {}
    for procedure in procedures:
        cells = _cells_of(shared, procedure)
        if cells is None or not all([_fits(statement, cells, passed) for statement in procedure.statements()]):
            return False
        for statement in procedure.statements():
            # All cells that are asked with one word have the same size.
            if statement[0] == "ask" and sizes.setdefault(statement[1], cells[statement[2]]) != cells[statement[2]]:
                return False
    return True


def _cells_of(shared, procedure):
    """A dict from all cells that a procedure can use to their sizes, or None if there cannot be such ones."""
    if not all([name not in shared for name, size in procedure.own]):
        return None
    cells = with_own(shared, procedure.own)
    return None if product_of(list(cells.values())) > MOST_ROWS else cells


def _fits(statement, cells, passed):
    """Whether a statement fits the cells that it can use and the procedures that it can call."""
    kind = statement[0]
    if kind in ("say", "ask"):
        return statement[2] is None or statement[2] in cells
    if kind == "call":
        return _call_fits(statement, cells, passed)
    if kind in ("either", "often"):
        return True
    if statement[1] not in cells:
        return False
    if kind == "set":
        return _set_fits(statement, cells)
    return kind == "hide" or statement[2] < cells[statement[1]]


def _set_fits(statement, cells):
    """Whether the table has a number that the cell can hold for each row, and nothing else."""
    cell, keys, table = statement[1:]
    rows = 1
    for name in keys:
        if name not in cells:
            return False
        rows = rows * cells[name]
    return len(table) == rows and max(table) < cells[cell]


def _call_fits(statement, cells, passed):
    """Whether the procedure can be called, and can take and give what is passed."""
    _, called, taken, given = statement
    if called not in passed:
        return False
    # The size of a cell is never None.
    return all([cell is None or cells.get(cell, 0) == passed[called] for cell in (taken, given)])
