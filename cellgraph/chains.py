"""Chains, as lists of places: each cell but the last reads from the next one."""

from cellgraph.graph import running_order


def shortest_chain(graph, begin, goals):
    """A chain with fewest steps from a place to one of the goals, or None where there is none.

    Of several the one is given which has the lower place where they first differ.
    """
    # Sources are ascending and chains are lengthened in the order in which they were found, so of all
    # chains to a place the one to be told is found first, and no other one to that place is needed.
    chains = [[begin]]
    reached = [begin]
    followed = 0
    while followed < len(chains):
        chain = chains[followed]
        if chain[-1] in goals:
            return chain
        for source in graph.sources[chain[-1]]:
            if source not in reached:
                reached.append(source)
                chains.append(chain + [source])
        followed += 1
    return None


def longest_steps(graph):
    """For the place of each clear cell how many steps the longest chain has that begins with it."""
    steps = {}
    # In running order each cell comes behind all that it reads from.
    for place in running_order(graph):
        steps[place] = max([steps[source] + 1 for source in graph.sources[place]], default=0)
    return steps
