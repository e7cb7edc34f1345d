"""The refusals, and the checks that calls share."""

from cellgraph.notebook import place_of

ACCEPTED = 0
BAD_NUMBER = -1
NUMBER_TAKEN = -2
BAD_PLACE = -3
BAD_MARK = -4
BAD_NAME = -5
NAME_TWICE = -6
NOTEBOOK_FULL = -7
NO_SUCH_CELL = -8
NAME_IN_USE = -9
BAD_WIDTH = -10
NOT_CLEAR = -11
NO_CHAIN = -12

LOWEST_NUMBER = 1
HIGHEST_NUMBER = 99
LOWEST_NAME = 0
HIGHEST_NAME = 31
MOST_CELLS = 12
LEAST_WIDTH = 1
GREATEST_WIDTH = 12


def is_name(value):
    return LOWEST_NAME <= value and value <= HIGHEST_NAME


def is_width(value):
    return LEAST_WIDTH <= value and value <= GREATEST_WIDTH


def has_twice(values):
    return len(set(values)) < len(values)


def refusal_of_content(broken, makes, reads):
    """What speaks against a cell's mark and lists, or ACCEPTED."""
    if broken != 0 and broken != 1:
        return BAD_MARK
    # Both lists are searched for -5 before either is searched for -6.
    if not all([is_name(value) for value in makes + reads]):
        return BAD_NAME
    if has_twice(makes) or has_twice(reads):
        return NAME_TWICE
    return ACCEPTED


def refusal_of_add(row, number, place, broken, makes, reads):
    """What speaks against adding such a cell, or ACCEPTED."""
    if number < LOWEST_NUMBER or number > HIGHEST_NUMBER:
        return BAD_NUMBER
    if place_of(row, number) is not None:
        return NUMBER_TAKEN
    if place < 0 or place > len(row):
        return BAD_PLACE
    refusal = refusal_of_content(broken, makes, reads)
    if refusal != ACCEPTED:
        return refusal
    if len(row) >= MOST_CELLS:
        return NOTEBOOK_FULL
    return ACCEPTED


def refusal_of_change(row, number, broken, makes, reads):
    """What speaks against changing the cell so, or ACCEPTED."""
    if place_of(row, number) is None:
        return NO_SUCH_CELL
    return refusal_of_content(broken, makes, reads)
