"""Promises about a program, and whether they are kept."""

from showncalls.base.programs import Program
from showncalls.base.shapes import is_fact_over
from showncalls.compare.alike import are_alike
from showncalls.compare.more import gives_no_more
from showncalls.compare.silent import is_silent
from showncalls.give.ends import is_settled
from showncalls.give.left import Left


def is_promise(program, value):
    """Whether a tuple is a promise about a program."""
    if len(value) != 2:
        return value == ("silent",)
    kind, about = value
    if kind in ("never", "known", "settled"):
        return is_fact_over(program, about)
    if kind not in ("alike", "no more") or not isinstance(about, Program):
        return False
    return kind == "alike" or about.shared == program.shared


def is_kept(program, promise):
    """Whether a promise about a program is true."""
    kind = promise[0]
    if kind == "silent":
        return is_silent(program)
    about = promise[1]
    if kind == "settled":
        return is_settled(program, about)
    if kind == "alike":
        return are_alike(program, about)
    if kind == "no more":
        return gives_no_more(program, about)
    return (about in Left(program)) == (kind == "known")
