"""Whether procedures fit together as a program, beyond the form of each one."""

from showncalls.base.cells import with_own
from showncalls.base.checks import product_of
from showncalls.base.statements import cells_in

MOST_PROCEDURES = 8
MOST_ROWS = 64


def fit_together(shared, procedures):
    """Whether these procedures, the main one first, make up a program with these shared cells."""
    if not 1 <= len(procedures) <= MOST_PROCEDURES or procedures[0].quiet:
        return False
    if len({procedure.called for procedure in procedures}) < len(procedures):
        return False
    # For each procedure that can be called: the size of the cell that takes and gives numbers, if there is one.
    passed = {procedure.called: procedure.own[0][1] if procedure.own else None for procedure in procedures[1:]}
    if not all([_fits(shared, procedure, passed) for procedure in procedures]):
        return False
    asked = [pair for procedure in procedures for pair in _asked(shared, procedure)]
    return len(set(asked)) == len({word for word, size in asked})


def _fits(shared, procedure, passed):
    """Whether the own cells and the statements of a procedure fit the shared cells and the calls."""
    if not all([name not in shared for name, size in procedure.own]):
        return False
    cells = with_own(shared, procedure.own)
    if product_of(list(cells.values())) > MOST_ROWS:
        return False
    return all([_statement_fits(statement, cells, passed) for statement in procedure._statements])


def _statement_fits(statement, cells, passed):
    """Whether a statement fits the cells that it can use and the procedures that it can call."""
    if not all([name in cells for name in cells_in(statement)]):
        return False
    if statement[0] == "set":
        return _set_fits(statement, cells)
    if statement[0] == "call":
        return _call_fits(statement, cells, passed)
    return statement[0] != "if" or statement[2] < cells[statement[1]]


def _set_fits(statement, cells):
    """Whether the table has a number that the cell can hold for each row, and nothing else."""
    cell, keys, table = statement[1:]
    if len(table) != product_of([cells[name] for name in keys]):
        return False
    return all([number < cells[cell] for number in table])


def _call_fits(statement, cells, passed):
    """Whether the procedure can be called, and can take and give what is passed."""
    called = statement[1]
    return called in passed and all([cells[name] == passed[called] for name in cells_in(statement)])


def _asked(shared, procedure):
    """The list of the pairs of the word and the size of the cell of all asks of a procedure."""
    asks = [statement for statement in procedure._statements if statement[0] == "ask"]
    cells = with_own(shared, procedure.own) if asks else {}
    return [(word, cells[cell]) for kind, word, cell in asks]
