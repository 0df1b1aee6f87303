"""Nodes that are joined by edges, by the undirected reading."""

from bridgeward.rows import in_node_order, is_label_row, labelled_edges
from bridgeward.steps import reached, walk_steps


def joined_nodes(graph, name):
    """The nodes that are joined with this one, itself too, in node order."""
    return in_node_order(graph, reached(walk_steps(graph.edges), name))


def joined_rows(names, edges):
    """The sets of names that these edges join, each in order, by their first names.

    The ends of the edges must be among names.
    """
    steps = walk_steps(edges)
    rows = []
    left = list(names)
    while left:
        found = reached(steps, left[0])
        rows.append(tuple([name for name in left if name in found]))
        left = [name for name in left if name not in found]
    return tuple(rows)


def grown_forest(names, edges):
    """The labels of those edges that are taken: each in turn if no circle comes of it."""
    group = {name: name for name in names}
    taken = []
    for label, tail, head in [edge[:3] for edge in edges]:
        gone, kept = group[tail], group[head]
        if gone != kept:
            taken.append(label)
            for name in names:
                if group[name] == gone:
                    group[name] = kept
    return tuple(taken)


def is_tree_over(graph, names, value):
    """Whether value is a row of labels, one fewer than names if there are any, that join all names.

    So few edges join them only if these have both ends among names.
    """
    if not is_label_row(graph, value) or len(value) != max(len(names) - 1, 0):
        return False
    if not names:
        return True
    found = reached(walk_steps(labelled_edges(graph, value)), names[0])
    return all([name in found for name in names])
