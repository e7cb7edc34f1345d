"""The calls that tell which clear cells run, in which order, and after which others."""

from cellgraph.chains import longest_steps
from cellgraph.graph import CLEAR, Graph, nearest_sources, running_order, waves_of
from cellgraph.notebook import place_of
from cellgraph.refusals import ACCEPTED, BAD_WIDTH, NOT_CLEAR, NO_SUCH_CELL, is_width
from cellgraph.telling import told_cells, told_lists


def order_of_cells(row):
    return told_cells(row, running_order(Graph(row)))


def waves_of_cells(row, width):
    if not is_width(width):
        return [BAD_WIDTH]
    return told_lists(row, waves_of(Graph(row), width))


def refusal_of_unclear(row, number):
    """What speaks against telling how the cell runs, or ACCEPTED."""
    place = place_of(row, number)
    if place is None:
        return NO_SUCH_CELL
    if Graph(row).states[place] != CLEAR:
        return NOT_CLEAR
    return ACCEPTED


def level_of_cell(row, number):
    refusal = refusal_of_unclear(row, number)
    if refusal != ACCEPTED:
        return [refusal]
    return [longest_steps(Graph(row))[place_of(row, number)]]


def needed_by_cell(row, number):
    refusal = refusal_of_unclear(row, number)
    if refusal != ACCEPTED:
        return [refusal]
    return told_cells(row, nearest_sources(Graph(row), place_of(row, number)))


def touched_cells(row, numbers):
    changed = [place_of(row, number) for number in numbers]
    if None in changed:
        return [NO_SUCH_CELL]
    graph = Graph(row)
    return told_cells(row, [place for place in running_order(graph) if is_touched(graph, place, changed)])


def is_touched(graph, place, changed):
    return place in changed or any([upper in changed for upper in graph.above[place]])
