"""Who reads from whom, who is above whom, and the states, the running order and the groups that follow.

Here cells are spoken of by their places, since most that is told of them goes in order of place.
"""

from cellgraph.notebook import all_places
from cellgraph.refusals import HIGHEST_NAME

CLEAR = 0
BROKEN = 1
DOUBLE = 2
CIRCLE = 3
MISSING = 4
UNSURE = 5
BEHIND = 6


class Graph:
    """What follows from a row of cells. Each list but makers has one value for each place."""

    def __init__(self, row):
        places = all_places(row)
        self.makers = [places_making(row, name) for name in range(HIGHEST_NAME + 1)]
        self.sources = [sources_of(cell, self.makers) for cell in row]
        self.above = [reached_places(self.sources, place) for place in places]
        self.own_troubles = [own_troubles_of(row[place], self.makers, place in self.above[place]) for place in places]
        self.states = [state_of(place, self.own_troubles, self.above) for place in places]


def places_making(row, name):
    return [place for place, cell in enumerate(row) if name in cell.makes]


def places_reading(row, name):
    return [place for place, cell in enumerate(row) if name in cell.reads]


def sources_of(cell, makers):
    """The places that the cell reads from, ascending."""
    return sorted(set([makers[name][0] for name in cell.reads if len(makers[name]) == 1]))


def reached_places(links, start):
    """The places that one or more steps along the links lead to, ascending.

    The links of each place are a list that holds none twice.
    """
    # The start is not put in ahead: it is among the found ones only if some steps lead back to it.
    found = list(links[start])
    followed = 0
    while followed < len(found):
        current = found[followed]
        for place in links[current]:
            if place not in found:
                found.append(place)
        followed += 1
    return sorted(found)


def own_troubles_of(cell, makers, on_circle):
    """The troubles that make the cell sick, as pairs of a kind and what it is about."""
    troubles = []
    if cell.broken == 1:
        troubles.append((BROKEN, 0))
    troubles.extend([(DOUBLE, name) for name in cell.makes if len(makers[name]) > 1])
    if on_circle:
        troubles.append((CIRCLE, 0))
    troubles.extend([(MISSING, name) for name in cell.reads if len(makers[name]) == 0])
    troubles.extend([(UNSURE, name) for name in cell.reads if len(makers[name]) > 1])
    return troubles


def state_of(place, own_troubles, above):
    # A cell's own troubles stand in the order of the states, so the first one's kind is its state.
    if len(own_troubles[place]) > 0:
        return own_troubles[place][0][0]
    if any([len(own_troubles[upper]) > 0 for upper in above[place]]):
        return BEHIND
    return CLEAR


def unclear_sources(graph, place):
    """The places other than its own that the cell reads from and that are not clear."""
    return [source for source in graph.sources[place] if source != place and graph.states[source] != CLEAR]


def nearest_sources(graph, place):
    """The places that the clear cell reads from and that are above no other one that it reads from."""
    sources = graph.sources[place]
    # None of them is above itself, since none is on a circle: only the others can speak against one.
    return [source for source in sources if not is_above_some(graph, source, sources)]


def is_above_some(graph, place, others):
    return any([place in graph.above[other] for other in others])


def places_below(graph, place):
    return [other for other, above in enumerate(graph.above) if place in above]


def readers_from(graph, place):
    """The places of the cells that read from the cell."""
    return [other for other, sources in enumerate(graph.sources) if place in sources]


def sick_places(graph):
    return [place for place, troubles in enumerate(graph.own_troubles) if len(troubles) > 0]


def all_taken(places, taken):
    return all([place in taken for place in places])


def waves_of(graph, width):
    """Rounds in which the clear cells run, as lists of places, none longer than the width."""
    waves = []
    taken = []
    waiting = [place for place, state in enumerate(graph.states) if state == CLEAR]
    while len(waiting) > 0:
        # One is always ready: all above a clear cell are clear, and none of them is on a circle.
        ready = [place for place in waiting if all_taken(graph.above[place], taken)]
        wave = ready[:width]
        waves.append(wave)
        taken.extend(wave)
        waiting = [place for place in waiting if place not in wave]
    return waves


def running_order(graph):
    """The places of the clear cells, in the order in which they run."""
    # Rounds of one cell each take, again and again, the ready cell of lowest place.
    return [wave[0] for wave in waves_of(graph, 1)]


def groups_of(graph):
    """The groups of places that hang together, in order of their first places."""
    joined = [joined_places(graph, place) for place in range(len(graph.sources))]
    groups = [reached_places(joined, place) for place in range(len(joined))]
    # Each group is found once for each of its places, and kept where its first place stands.
    return [group for place, group in enumerate(groups) if group[0] == place]


def joined_places(graph, place):
    # The place itself is among them, so that a cell alone is a group too.
    return sorted(set([place] + graph.sources[place] + readers_from(graph, place)))
