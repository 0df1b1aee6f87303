"""Reading the text of a graph; str(graph) writes it."""

from bridgeward.errors import InvalidText
from bridgeward.graphs import Graph
from bridgeward.values import is_edge, is_name, read_integer


def _read_nodes(line):
    """The names that the first line tells, or None if it is wrong."""
    words = line.split(" ")
    names = words[1:]
    if words[0] != "nodes" or not all([is_name(name) for name in names]):
        return None
    return names if len(set(names)) == len(names) else None


def _read_edge(line):
    """The edge that a line tells, or None if it is wrong."""
    words = line.split(" ")
    if words[0] != "edge":
        return None
    edge = tuple(words[1:4] + [read_integer(word) for word in words[4:]])
    return edge if is_edge(edge) else None


def read_graph(text):
    """The graph whose text this is."""
    lines = text.split("\n")
    nodes = _read_nodes(lines[0])
    if nodes is None:
        raise InvalidText(text, 0)
    known = set(nodes)
    labels = set()
    edges = []
    at = len(lines[0]) + 1
    for line in lines[1:]:
        edge = _read_edge(line)
        if edge is None or edge[0] in labels:
            raise InvalidText(text, at)
        if edge[1] not in known or edge[2] not in known:
            raise InvalidText(text, at)
        labels.add(edge[0])
        edges.append(edge)
        at += len(line) + 1
    return Graph(nodes, edges)
