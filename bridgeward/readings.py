"""The two readings of a graph: ways go by tail and head, walks by either end."""

from bridgeward.errors import UnknownNode
from bridgeward.rows import require_nodes


def out_labels(graph, name):
    """The labels of the edges whose tail the node is."""
    require_nodes(graph, (name,))
    return tuple([edge[0] for edge in graph.edges if edge[1] == name])


def in_labels(graph, name):
    """The labels of the edges whose head the node is."""
    require_nodes(graph, (name,))
    return tuple([edge[0] for edge in graph.edges if edge[2] == name])


def labels_at(graph, name):
    """The labels of the edges of which the node is an end, a loop once."""
    require_nodes(graph, (name,))
    return tuple([edge[0] for edge in graph.edges if name in edge[1:3]])


def degree(graph, name):
    """How many ends of edges are at the node, two of a loop."""
    require_nodes(graph, (name,))
    return sum([edge[1:3].count(name) for edge in graph.edges])


def other_end(graph, label, name):
    """The end of the edge across from this one."""
    tail, head = graph[label][1:3]
    if name == tail:
        return head
    if name == head:
        return tail
    raise UnknownNode(name)


def _leads(moves, s, t, labels):
    """Whether labels is a tuple that leads from s to t.

    moves tells for a label and the node at one end of it the node behind it.
    """
    if not isinstance(labels, tuple):
        return False
    here = s
    for label in labels:
        # A label that is no string may have no hash.
        if not isinstance(label, str) or (label, here) not in moves:
            return False
        here = moves[label, here]
    return here == t


def is_way(graph, s, t, labels):
    """Whether labels is a way from s to t."""
    require_nodes(graph, (s, t))
    moves = {(edge[0], edge[1]): edge[2] for edge in graph.edges}
    return _leads(moves, s, t, labels)


def is_walk(graph, s, t, labels):
    """Whether labels is a walk from s to t."""
    require_nodes(graph, (s, t))
    moves = {}
    for label, tail, head in [edge[:3] for edge in graph.edges]:
        moves[label, tail] = head
        moves[label, head] = tail
    return _leads(moves, s, t, labels)


def is_circle(graph, name, labels):
    """Whether labels is a circle from the node of this name; both may be any value."""
    if name not in graph or labels == () or not is_walk(graph, name, name, labels):
        return False
    return len(set(labels)) == len(labels)


def price_of(graph, labels):
    """The sum of the prices of the edges, each as often as it comes."""
    return sum([graph[label][3] for label in labels])
