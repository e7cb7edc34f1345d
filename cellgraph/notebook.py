"""A notebook: a row of cells, which stand in it in order of place."""


class Cell:
    """A cell is never changed once it is made: a change puts a new one into its place."""

    def __init__(self, number, broken, makes, reads):
        self.number = number
        self.broken = broken
        self.makes = sorted(makes)
        self.reads = sorted(reads)


class Notebook:
    def __init__(self):
        self.row = []


def all_places(row):
    return list(range(len(row)))


def place_of(row, number):
    """The place of the cell of that number, or None where there is none."""
    for place, cell in enumerate(row):
        if cell.number == number:
            return place
    return None


def has_name(cell, name):
    return name in cell.makes or name in cell.reads
