"""Traces: what happens to a run, one move behind another."""

from lookspoil.errors import NoTrace
from lookspoil.moves import is_cut, trace_end
from lookspoil.stores import check_layout


def follow(program, layout, trace):
    """The pair (place, layout) behind the trace."""
    check_layout(program.store, layout)
    end = trace_end(program, layout, trace)
    if end is None:
        raise NoTrace()
    return end


def cuts_in(trace):
    """The number of the moves that are cuts."""
    return len([move for move in trace if is_cut(move)])
