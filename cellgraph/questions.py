"""The calls that tell what cells hold and in which state they are."""

from cellgraph.graph import BEHIND, Graph, places_making, places_reading, unclear_sources
from cellgraph.notebook import all_places, place_of
from cellgraph.refusals import BAD_NAME, NO_SUCH_CELL, is_name
from cellgraph.telling import told_cells, told_tuples

FOUND = 0


def all_cells(row):
    return told_cells(row, all_places(row))


def one_cell(row, number):
    place = place_of(row, number)
    if place is None:
        return [NO_SUCH_CELL]
    cell = row[place]
    return [FOUND, place, cell.broken, len(cell.makes)] + cell.makes + [len(cell.reads)] + cell.reads


def makers_of(row, name):
    if not is_name(name):
        return [BAD_NAME]
    return told_cells(row, places_making(row, name))


def readers_of(row, name):
    if not is_name(name):
        return [BAD_NAME]
    return told_cells(row, places_reading(row, name))


def state_of_cell(row, number):
    place = place_of(row, number)
    if place is None:
        return [NO_SUCH_CELL]
    return [Graph(row).states[place]]


def troubles_of_cell(row, number):
    place = place_of(row, number)
    if place is None:
        return [NO_SUCH_CELL]
    graph = Graph(row)
    behind = [(BEHIND, row[source].number) for source in unclear_sources(graph, place)]
    return told_tuples(graph.own_troubles[place] + behind)
