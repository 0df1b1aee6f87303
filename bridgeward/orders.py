"""Strong parts and orders, by the directed reading."""

from bridgeward.errors import InvalidQuestion, Undefined
from bridgeward.readings import is_way
from bridgeward.rows import in_node_order, is_parting, labelled_edges
from bridgeward.steps import directed_steps, reached, trace, turned
from bridgeward.values import has_parts, is_integer

STRONG = "strong"
ORDER = "order"
ROUND = "round"


def strong_parts(graph):
    """The sets of strongly joined nodes, by their first nodes."""
    steps = directed_steps(graph.edges)
    rows = []
    left = graph.nodes
    while left:
        ahead = reached(steps, left[0])
        behind = reached(turned(steps), left[0])
        row = tuple([name for name in left if name in ahead and name in behind])
        rows.append(row)
        left = [name for name in left if name not in row]
    return tuple(rows)


def first_order(graph):
    """The row in which each node is the first to which no edge leads from those left."""
    row = []
    left = list(graph.nodes)
    while left:
        heads = [edge[2] for edge in graph.edges if edge[1] in left]
        free = [name for name in left if name not in heads]
        if not free:
            raise Undefined("order")
        row.append(free[0])
        left.remove(free[0])
    return tuple(row)


def _some_round(graph):
    """A pair of a node and a round from it, or None if there is no round."""
    for label, tail, head in [edge[:3] for edge in graph.edges]:
        last = reached(directed_steps(graph.edges), head)
        if tail in last:
            return (head, trace(last, tail) + (label,))
    return None


def order_claim(graph, kind):
    """The true claim of this kind."""
    if kind == STRONG:
        return (STRONG, strong_parts(graph))
    if kind == ORDER:
        return (ORDER,) if _some_round(graph) is None else (ROUND,)
    raise InvalidQuestion(kind)


def order_warrant(graph, kind):
    """Some warrant of order_claim(graph, kind)."""
    if kind == STRONG:
        return _strong_warrant(graph)
    if kind == ORDER:
        found = _some_round(graph)
        return first_order(graph) if found is None else found
    raise InvalidQuestion(kind)


def _round_through(graph, row):
    """A way from the first node of a strong part to itself by all its nodes, () if it is alone."""
    labels = []
    for here, there in zip(row, row[1:] + row[:1]):
        labels.extend(trace(reached(directed_steps(graph.edges), here), there))
    return tuple(labels)


def _strong_warrant(graph):
    """For each strong part a round, and as its rank how many nodes lead to it."""
    rows = strong_parts(graph)
    back = turned(directed_steps(graph.edges))
    ranks = tuple([len(reached(back, row[0])) for row in rows])
    return (tuple([_round_through(graph, row) for row in rows]), ranks)


def order_holds(graph, claim, warrant):
    """Whether claim is of strong parts or orders and warrant one of its warrants."""
    if claim == (ORDER,):
        return _is_order(graph, warrant)
    if claim == (ROUND,):
        return has_parts(warrant, 2) and _is_round(graph, warrant[0], warrant[1])
    if not has_parts(claim, 2) or claim[0] != STRONG or not is_parting(graph, claim[1]):
        return False
    return _strong_holds(graph, claim[1], warrant)


def _is_order(graph, value):
    """Whether value is a row of all nodes in which each edge leads further on."""
    if not has_parts(value, len(graph)) or in_node_order(graph, value) != graph.nodes:
        return False
    return all([value.index(edge[1]) < value.index(edge[2]) for edge in graph.edges])


def _is_round(graph, name, labels):
    """Whether labels is a round from the node of this name."""
    return name in graph and labels != () and is_way(graph, name, name, labels)


def _strong_holds(graph, rows, warrant):
    """Whether warrant has a round for each of the rows, and ranks that rise along the edges between them."""
    if not has_parts(warrant, 2):
        return False
    rounds, ranks = warrant
    if not has_parts(rounds, len(rows)) or not has_parts(ranks, len(rows)):
        return False
    if not all([is_integer(rank) for rank in ranks]) or not _ranks_rise(graph, rows, ranks):
        return False
    return all([_leads_round(graph, row, labels) for row, labels in zip(rows, rounds)])


def _leads_round(graph, row, labels):
    """Whether labels is a way from the first node of row to itself by all its nodes, or () if it is alone."""
    if len(row) == 1:
        return labels == ()
    if not is_way(graph, row[0], row[0], labels):
        return False
    heads = [edge[2] for edge in labelled_edges(graph, labels)]
    return all([name in heads for name in row])


def _ranks_rise(graph, rows, ranks):
    """Whether each edge between unlike rows leads from the lesser rank to the greater."""
    place = {name: at for at, row in enumerate(rows) for name in row}
    for tail, head in [(place[edge[1]], place[edge[2]]) for edge in graph.edges]:
        if tail != head and ranks[tail] >= ranks[head]:
            return False
    return True
