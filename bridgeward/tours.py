"""Tours: walks from a node to itself by all edges, each just once."""

from bridgeward.errors import Undefined
from bridgeward.joins import joined_nodes
from bridgeward.readings import degree, is_circle, other_end
from bridgeward.rows import edges_across, edges_within, is_node_row, require_nodes
from bridgeward.steps import reached, walk_steps
from bridgeward.values import has_parts

TOUR = ("tour",)
NO_TOUR = ("no tour",)


def _hindrance(graph):
    """A warrant that there is no tour, or None if there is one or there are no edges."""
    for name in graph.nodes:
        if degree(graph, name) % 2 == 1:
            return ("odd", name)
    if not graph.edges:
        return None
    nodes = joined_nodes(graph, graph.edges[0][1])
    return None if edges_within(graph, nodes) == list(graph.edges) else ("apart", nodes)


def tour_claim(graph):
    """The true one of the two claims about tours."""
    return TOUR if _hindrance(graph) is None else NO_TOUR


def tour_warrant(graph):
    """Some warrant of tour_claim(graph)."""
    found = _hindrance(graph)
    if found is not None:
        return found
    if not graph.edges:
        return ()
    name = graph.edges[0][1]
    return (name, first_tour(graph, name))


def tour_holds(graph, claim, warrant):
    """Whether claim is one of the two and warrant one of its warrants."""
    if claim == TOUR and not graph.edges:
        return warrant == ()
    if claim not in (TOUR, NO_TOUR) or not has_parts(warrant, 2):
        return False
    first, second = warrant
    if claim == TOUR:
        return is_circle(graph, first, second) and len(second) == len(graph.edges)
    if first == "odd":
        return second in graph and degree(graph, second) % 2 == 1
    return first == "apart" and is_node_row(graph, second) and _parts_edges(graph, second)


def _parts_edges(graph, nodes):
    """Whether some edge has both ends among nodes, some none, and no edge just one."""
    return not edges_across(graph, nodes) and 0 < len(edges_within(graph, nodes)) < len(graph.edges)


def _can_be_walked(edges, here, end):
    """Whether there is a walk from here to end in which each of the edges comes just once."""
    # With the step that would close the walk each node is an end an even number of times.
    ends = [here, end] + [name for edge in edges for name in edge[1:3]]
    if any([ends.count(name) % 2 == 1 for name in ends]):
        return False
    found = reached(walk_steps(edges), here)
    return all([edge[1] in found for edge in edges])


def _first_steps(graph, left, here, end):
    """The edges by which walks from here to end by all edges left can begin, each with the node behind it."""
    steps = [(edge, other_end(graph, edge[0], here)) for edge in left if here in edge[1:3]]
    return [step for step in steps if _can_be_walked([edge for edge in left if edge != step[0]], step[1], end)]


def first_tour(graph, name):
    """The tour from the node whose labels come first by edge order, () if there are no edges."""
    require_nodes(graph, (name,))
    left = list(graph.edges)
    if not _can_be_walked(left, name, name):
        raise Undefined("tour")
    labels = []
    here = name
    while left:
        edge, here = _first_steps(graph, left, here, name)[0]
        labels.append(edge[0])
        left.remove(edge)
    return tuple(labels)
