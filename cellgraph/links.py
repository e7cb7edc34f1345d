"""The calls that tell how cells are joined by what they read from one another."""

from cellgraph.chains import shortest_chain
from cellgraph.graph import Graph, groups_of, places_below, readers_from, sick_places
from cellgraph.notebook import place_of
from cellgraph.refusals import NO_CHAIN, NO_SUCH_CELL
from cellgraph.telling import told_cells, told_lists


def cells_above(row, number):
    place = place_of(row, number)
    if place is None:
        return [NO_SUCH_CELL]
    return told_cells(row, Graph(row).above[place])


def cells_below(row, number):
    place = place_of(row, number)
    if place is None:
        return [NO_SUCH_CELL]
    return told_cells(row, places_below(Graph(row), place))


def circle_of_cell(row, number):
    place = place_of(row, number)
    if place is None:
        return [NO_SUCH_CELL]
    graph = Graph(row)
    return told_cells(row, [other for other in places_below(graph, place) if other in graph.above[place]])


def way_between(row, begin_number, end_number):
    begin = place_of(row, begin_number)
    end = place_of(row, end_number)
    if begin is None or end is None:
        return [NO_SUCH_CELL]
    chain = shortest_chain(Graph(row), begin, [end])
    if chain is None:
        return [NO_CHAIN]
    return told_cells(row, chain)


def ring_of_cell(row, number):
    place = place_of(row, number)
    if place is None:
        return [NO_SUCH_CELL]
    graph = Graph(row)
    # The last cell of a chain back to the cell is left out, so the chain ends with one that reads from the cell.
    chain = shortest_chain(graph, place, readers_from(graph, place))
    return told_cells(row, [] if chain is None else chain)


def why_of_cell(row, number):
    place = place_of(row, number)
    if place is None:
        return [NO_SUCH_CELL]
    graph = Graph(row)
    # For a clear cell there is no such chain: it is not sick, and none above it is.
    chain = shortest_chain(graph, place, sick_places(graph))
    return told_cells(row, [] if chain is None else chain)


def groups_of_cells(row):
    return told_lists(row, groups_of(Graph(row)))
