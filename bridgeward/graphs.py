"""Graphs: nodes and edges that never change."""

from bridgeward.errors import InvalidGraph, InvalidNumber, Taken, UnknownEdge, UnknownNode
from bridgeward.values import is_edge, is_integer, is_name, is_number, is_sequence


def _are_unlike_names(nodes):
    """Whether nodes is a sequence of names of which none comes twice."""
    if not is_sequence(nodes) or not all([is_name(name) for name in nodes]):
        return False
    return len(set(nodes)) == len(nodes)


def _check_edges(nodes, edges):
    """Raise InvalidGraph with the first of edges that does not fit."""
    known = set(nodes)
    labels = set()
    for edge in edges:
        if not is_edge(edge) or edge[0] in labels:
            raise InvalidGraph(edge)
        if edge[1] not in known or edge[2] not in known:
            raise InvalidGraph(edge)
        labels.add(edge[0])


class Graph:
    """Named nodes in order, and labelled edges between them in order."""

    def __init__(self, nodes, edges):
        if not _are_unlike_names(nodes):
            raise InvalidGraph(nodes)
        if not is_sequence(edges):
            raise InvalidGraph(edges)
        _check_edges(nodes, edges)
        self.nodes = tuple(nodes)
        self.edges = tuple(edges)

    def __eq__(self, other):
        return isinstance(other, Graph) and self.nodes == other.nodes and self.edges == other.edges

    def __len__(self):
        return len(self.nodes)

    def __contains__(self, x):
        return x in self.nodes

    def __getitem__(self, at):
        for edge in self.edges:
            if edge[0] == at:
                return edge
        raise UnknownEdge(at)

    def __iter__(self):
        raise TypeError("a graph is not iterable")

    def __str__(self):
        rows = [("nodes", *self.nodes)] + [("edge", *edge) for edge in self.edges]
        return "\n".join([" ".join([str(word) for word in row]) for row in rows])

    def place(self, name):
        """The number of the node."""
        if name not in self:
            raise UnknownNode(name)
        return self.nodes.index(name)

    def with_node(self, name):
        """The graph with one more node, behind the others."""
        if not is_name(name):
            raise InvalidGraph(name)
        if name in self:
            raise Taken(name)
        return Graph([*self.nodes, name], self.edges)

    def without_node(self, name):
        """The graph without the node and all edges at it."""
        if name not in self:
            raise UnknownNode(name)
        nodes = [node for node in self.nodes if node != name]
        edges = [edge for edge in self.edges if name not in edge[1:3]]
        return Graph(nodes, edges)

    def with_edge(self, edge):
        """The graph with one more edge, behind the others."""
        if not is_edge(edge):
            raise InvalidGraph(edge)
        for name in edge[1:3]:
            if name not in self:
                raise UnknownNode(name)
        if edge[0] in [old[0] for old in self.edges]:
            raise Taken(edge[0])
        return Graph(self.nodes, [*self.edges, edge])

    def without_edge(self, label):
        """The graph without the edge."""
        gone = self[label]
        return Graph(self.nodes, [edge for edge in self.edges if edge != gone])

    def with_price(self, label, price):
        """The graph in which the edge has this price."""
        old = self[label]
        if not is_integer(price):
            raise InvalidNumber(price)
        return self._with_changed(old, old[:3] + (price, old[4]))

    def with_room(self, label, room):
        """The graph in which the edge has this room."""
        old = self[label]
        if not is_number(room):
            raise InvalidNumber(room)
        return self._with_changed(old, old[:4] + (room,))

    def _with_changed(self, old, new):
        """The graph with the edge new in the place of the edge old."""
        return Graph(self.nodes, [new if edge == old else edge for edge in self.edges])
