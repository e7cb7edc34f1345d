"""The calls that tell what a change would do before it is made."""

from cellgraph.graph import Graph
from cellgraph.notebook import Cell, place_of, row_with_changed, row_without
from cellgraph.refusals import ACCEPTED, NO_SUCH_CELL, refusal_of_change
from cellgraph.telling import told_tuples


def suppose_changed(row, number, broken, makes, reads):
    refusal = refusal_of_change(row, number, broken, makes, reads)
    if refusal != ACCEPTED:
        return [refusal]
    return told_other_states(row, row_with_changed(row, Cell(number, broken, makes, reads)))


def suppose_dropped(row, number):
    if place_of(row, number) is None:
        return [NO_SUCH_CELL]
    return told_other_states(row, row_without(row, number))


def told_other_states(row, later_row):
    """The cells of the later row whose states differ: how many, then each one's number and two states."""
    now = states_by_number(row)
    then = states_by_number(later_row)
    # A dropped cell is missing in the later row, and so it isn't told.
    differing = [cell.number for cell in later_row if now[cell.number] != then[cell.number]]
    return told_tuples([(number, now[number], then[number]) for number in differing])


def states_by_number(row):
    # By number, since behind a dropped cell the places are others.
    return dict(zip([cell.number for cell in row], Graph(row).states))
