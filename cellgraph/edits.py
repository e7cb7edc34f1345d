"""The calls that change the notebook."""

from cellgraph.graph import Graph, running_order
from cellgraph.notebook import Cell, all_places, has_name, place_of, row_with_changed, row_without
from cellgraph.refusals import ACCEPTED, BAD_NAME, BAD_PLACE, NAME_IN_USE, NO_SUCH_CELL
from cellgraph.refusals import is_name, refusal_of_add, refusal_of_change

DONE = 0


def add_cell(notebook, number, place, broken, makes, reads):
    refusal = refusal_of_add(notebook.row, number, place, broken, makes, reads)
    if refusal != ACCEPTED:
        return [refusal]
    notebook.row.insert(place, Cell(number, broken, makes, reads))
    return [DONE]


def change_cell(notebook, number, broken, makes, reads):
    refusal = refusal_of_change(notebook.row, number, broken, makes, reads)
    if refusal != ACCEPTED:
        return [refusal]
    notebook.row = row_with_changed(notebook.row, Cell(number, broken, makes, reads))
    return [DONE]


def drop_cell(notebook, number):
    if place_of(notebook.row, number) is None:
        return [NO_SUCH_CELL]
    notebook.row = row_without(notebook.row, number)
    return [DONE]


def move_cell(notebook, number, place):
    old_place = place_of(notebook.row, number)
    if old_place is None:
        return [NO_SUCH_CELL]
    if place < 0 or place >= len(notebook.row):
        return [BAD_PLACE]
    cell = notebook.row.pop(old_place)
    notebook.row.insert(place, cell)
    return [DONE]


def tidy_cells(notebook):
    order = running_order(Graph(notebook.row))
    others = [place for place in all_places(notebook.row) if place not in order]
    old_places = order + others
    notebook.row = [notebook.row[old_place] for old_place in old_places]
    return [len([place for place, old_place in enumerate(old_places) if place != old_place])]


def rename_name(notebook, old_name, new_name):
    if not is_name(old_name) or not is_name(new_name):
        return [BAD_NAME]
    if any([has_name(cell, new_name) for cell in notebook.row]):
        return [NAME_IN_USE]
    count = len([cell for cell in notebook.row if has_name(cell, old_name)])
    notebook.row = [renamed_cell(cell, old_name, new_name) for cell in notebook.row]
    return [count]


def renamed_cell(cell, old_name, new_name):
    makes = renamed_list(cell.makes, old_name, new_name)
    reads = renamed_list(cell.reads, old_name, new_name)
    return Cell(cell.number, cell.broken, makes, reads)


def renamed_list(names, old_name, new_name):
    return [new_name if name == old_name else name for name in names]
