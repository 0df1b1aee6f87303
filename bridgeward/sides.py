"""Two sides, odd circles and covers, by the undirected reading."""

from bridgeward.errors import Undefined
from bridgeward.joins import joined_rows
from bridgeward.matchings import greatest_matching, is_matching
from bridgeward.readings import is_circle
from bridgeward.rows import edges_across, in_node_order, is_node_row
from bridgeward.steps import reached, trace, walk_steps
from bridgeward.values import has_parts, is_number

SIDES = ("sides",)
ODD_CIRCLE = ("odd circle",)


def _walks(graph):
    """For each node a walk, of the fewest edges, from the first node of its part."""
    steps = walk_steps(graph.edges)
    walks = {}
    for row in joined_rows(graph.nodes, graph.edges):
        last = reached(steps, row[0])
        for name in row:
            walks[name] = trace(last, name)
    return walks


def _odd_circle(graph):
    """A pair of a node and an odd circle from it, or None if there is none."""
    walks = _walks(graph)
    for label, tail, head in [edge[:3] for edge in graph.edges]:
        there, back = walks[tail], walks[head]
        # As walks of the fewest edges, to both ends of an edge, they are as long or differ by one.
        if len(there) == len(back):
            while there and there[0] == back[0]:
                there, back = there[1:], back[1:]
            return (tail, there[::-1] + back + (label,))
    return None


def first_sides(graph):
    """The nodes on the side of the first node of their part."""
    if _odd_circle(graph) is not None:
        raise Undefined("sides")
    walks = _walks(graph)
    return tuple([name for name in graph.nodes if len(walks[name]) % 2 == 0])


def sides_claim(graph):
    """The true one of the two claims about sides."""
    return SIDES if _odd_circle(graph) is None else ODD_CIRCLE


def sides_warrant(graph):
    """Some warrant of sides_claim(graph)."""
    found = _odd_circle(graph)
    return first_sides(graph) if found is None else found


def sides_holds(graph, claim, warrant):
    """Whether claim is one of the two and warrant one of its warrants."""
    if claim == SIDES:
        return is_node_row(graph, warrant) and len(edges_across(graph, warrant)) == len(graph.edges)
    if claim != ODD_CIRCLE or not has_parts(warrant, 2):
        return False
    name, labels = warrant
    return is_circle(graph, name, labels) and len(labels) % 2 == 1


def _least_cover(edges):
    """As few nodes as can be of which each of the edges has an end."""
    if not edges:
        return ()
    covers = []
    for name in edges[0][1:3]:
        covers.append((name,) + _least_cover([edge for edge in edges if name not in edge[1:3]]))
    return min(covers, key=len)


def cover_size(graph):
    """The least number of nodes of a cover."""
    return len(_least_cover(graph.edges))


def cover_claim(graph):
    """The claim of the least number, if there are two sides."""
    first_sides(graph)
    return ("cover", cover_size(graph))


def cover_warrant(graph):
    """Some warrant of cover_claim(graph)."""
    side = first_sides(graph)
    return (in_node_order(graph, _least_cover(graph.edges)), greatest_matching(graph), side)


def cover_holds(graph, claim, warrant):
    """Whether claim is the one of a cover and warrant one of its warrants."""
    if not has_parts(claim, 2) or claim[0] != "cover" or not is_number(claim[1]) or not has_parts(warrant, 3):
        return False
    nodes, labels, side = warrant
    if not _is_cover(graph, nodes) or len(nodes) != claim[1]:
        return False
    return is_matching(graph, labels) and len(labels) == claim[1] and sides_holds(graph, SIDES, side)


def _is_cover(graph, value):
    """Whether value is a row of nodes of which each edge has an end."""
    return is_node_row(graph, value) and all([edge[1] in value or edge[2] in value for edge in graph.edges])
