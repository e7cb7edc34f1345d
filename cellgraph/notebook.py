"""A notebook: a row of cells, which stand in it in order of place."""


class Cell:
    """A cell is never changed once it is made: a change puts a new one into its place."""

    def __init__(self, number, broken, makes, reads):
        self.number = number
        self.broken = broken
        self.makes = sorted(makes)
        self.reads = sorted(reads)


class Notebook:
    def __init__(self):
        self.row = []


def all_places(row):
    return list(range(len(row)))


def place_of(row, number):
    """The place of the cell of that number, or None where there is none."""
    for place, cell in enumerate(row):
        if cell.number == number:
            return place
    return None


def has_name(cell, name):
    return name in cell.makes or name in cell.reads


def row_with_changed(row, cell):
    """A new row, in which the cell stands at the place of the one of its number."""
    return [cell if old_cell.number == cell.number else old_cell for old_cell in row]


def row_without(row, number):
    """A new row, in which no cell of that number stands."""
    return [cell for cell in row if cell.number != number]
