"""The calls that only tell something of a row of cells."""

from cellgraph.graph import BEHIND, Graph, places_making, places_reading, running_order, unclear_sources
from cellgraph.notebook import all_places, place_of
from cellgraph.refusals import BAD_NAME, NO_SUCH_CELL, is_name

FOUND = 0


def told_cells(row, places):
    """How many cells, then their numbers."""
    return [len(places)] + [row[place].number for place in places]


def all_cells(row):
    return told_cells(row, all_places(row))


def one_cell(row, number):
    place = place_of(row, number)
    if place is None:
        return [NO_SUCH_CELL]
    cell = row[place]
    return [FOUND, place, cell.broken, len(cell.makes)] + cell.makes + [len(cell.reads)] + cell.reads


def makers_of(row, name):
    if not is_name(name):
        return [BAD_NAME]
    return told_cells(row, places_making(row, name))


def readers_of(row, name):
    if not is_name(name):
        return [BAD_NAME]
    return told_cells(row, places_reading(row, name))


def state_of_cell(row, number):
    place = place_of(row, number)
    if place is None:
        return [NO_SUCH_CELL]
    return [Graph(row).states[place]]


def troubles_of_cell(row, number):
    place = place_of(row, number)
    if place is None:
        return [NO_SUCH_CELL]
    graph = Graph(row)
    behind = [(BEHIND, row[source].number) for source in unclear_sources(graph, place)]
    troubles = graph.own_troubles[place] + behind
    answer = [len(troubles)]
    for trouble in troubles:
        answer.extend(trouble)
    return answer


def order_of_cells(row):
    return told_cells(row, running_order(Graph(row)))
