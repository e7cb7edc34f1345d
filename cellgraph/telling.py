"""Writing cells, given by their places, as the numbers of an answer."""


def told_cells(row, places):
    """How many cells, then their numbers."""
    return [len(places)] + [row[place].number for place in places]


def told_lists(row, lists):
    """How many lists, then the cells of each."""
    answer = [len(lists)]
    for places in lists:
        answer.extend(told_cells(row, places))
    return answer


def told_tuples(tuples):
    """How many tuples, then the numbers of each."""
    answer = [len(tuples)]
    for values in tuples:
        answer.extend(values)
    return answer
