"""The desk: takes a list of calls on a new notebook and gives back their answers."""

from cellgraph.edits import add_cell, change_cell, drop_cell, move_cell, rename_name, tidy_cells
from cellgraph.links import cells_above, cells_below, circle_of_cell, groups_of_cells
from cellgraph.links import ring_of_cell, way_between, why_of_cell
from cellgraph.notebook import Notebook
from cellgraph.plans import level_of_cell, needed_by_cell, order_of_cells, touched_cells, waves_of_cells
from cellgraph.previews import suppose_changed, suppose_dropped
from cellgraph.questions import all_cells, makers_of, one_cell, readers_of, state_of_cell, troubles_of_cell
from cellgraph.reader import CallReader


def call_add(notebook, reader):
    number = reader.take_whole()
    place = reader.take_whole()
    broken = reader.take_whole()
    makes = reader.take_list()
    reads = reader.take_list()
    return add_cell(notebook, number, place, broken, makes, reads)


def call_change(notebook, reader):
    number = reader.take_whole()
    broken = reader.take_whole()
    makes = reader.take_list()
    reads = reader.take_list()
    return change_cell(notebook, number, broken, makes, reads)


def call_drop(notebook, reader):
    return drop_cell(notebook, reader.take_whole())


def call_move(notebook, reader):
    number = reader.take_whole()
    place = reader.take_whole()
    return move_cell(notebook, number, place)


def call_tidy(notebook, reader):
    return tidy_cells(notebook)


def call_rename(notebook, reader):
    old_name = reader.take_whole()
    new_name = reader.take_whole()
    return rename_name(notebook, old_name, new_name)


def call_cells(notebook, reader):
    return all_cells(notebook.row)


def call_cell(notebook, reader):
    return one_cell(notebook.row, reader.take_whole())


def call_makers(notebook, reader):
    return makers_of(notebook.row, reader.take_whole())


def call_readers(notebook, reader):
    return readers_of(notebook.row, reader.take_whole())


def call_state(notebook, reader):
    return state_of_cell(notebook.row, reader.take_whole())


def call_troubles(notebook, reader):
    return troubles_of_cell(notebook.row, reader.take_whole())


def call_order(notebook, reader):
    return order_of_cells(notebook.row)


def call_waves(notebook, reader):
    return waves_of_cells(notebook.row, reader.take_whole())


def call_level(notebook, reader):
    return level_of_cell(notebook.row, reader.take_whole())


def call_above(notebook, reader):
    return cells_above(notebook.row, reader.take_whole())


def call_below(notebook, reader):
    return cells_below(notebook.row, reader.take_whole())


def call_circle(notebook, reader):
    return circle_of_cell(notebook.row, reader.take_whole())


def call_way(notebook, reader):
    begin_number = reader.take_whole()
    end_number = reader.take_whole()
    return way_between(notebook.row, begin_number, end_number)


def call_ring(notebook, reader):
    return ring_of_cell(notebook.row, reader.take_whole())


def call_why(notebook, reader):
    return why_of_cell(notebook.row, reader.take_whole())


def call_needed(notebook, reader):
    return needed_by_cell(notebook.row, reader.take_whole())


def call_groups(notebook, reader):
    return groups_of_cells(notebook.row)


def call_touched(notebook, reader):
    return touched_cells(notebook.row, reader.take_list())


def call_suppose(notebook, reader):
    number = reader.take_whole()
    broken = reader.take_whole()
    makes = reader.take_list()
    reads = reader.take_list()
    return suppose_changed(notebook.row, number, broken, makes, reads)


def call_without(notebook, reader):
    return suppose_dropped(notebook.row, reader.take_whole())


# A call's number is its index here.
CALLS = (
    call_add,
    call_change,
    call_drop,
    call_move,
    call_tidy,
    call_rename,
    call_cells,
    call_cell,
    call_makers,
    call_readers,
    call_state,
    call_troubles,
    call_order,
    call_waves,
    call_level,
    call_above,
    call_below,
    call_circle,
    call_way,
    call_ring,
    call_why,
    call_needed,
    call_groups,
    call_touched,
    call_suppose,
    call_without,
)


def answers(calls):
    notebook = Notebook()
    reader = CallReader(calls)
    told = []
    while reader.has_more():
        call = CALLS[reader.take_whole()]
        answer = call(notebook, reader)
        told.append(len(answer))
        told.extend(answer)
    return told
