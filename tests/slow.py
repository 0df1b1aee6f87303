"""Slow counts by trying all there is, to be compared with the program's answers."""

import itertools


def simple_ways(graph, s, t, passed=()):
    """All ways from s to t without a node that comes twice."""
    if s == t:
        return [()]
    ways = []
    for label, tail, head, _, _ in graph.edges:
        if tail == s and head not in passed + (s,):
            ways += [(label,) + rest for rest in simple_ways(graph, head, t, passed + (s,))]
    return ways


def edgewise_ways(graph, s, t, used=()):
    """All ways from s to t without an edge that comes twice."""
    ways = [()] if s == t else []
    for label, tail, head, _, _ in graph.edges:
        if tail == s and label not in used:
            ways += [(label,) + rest for rest in edgewise_ways(graph, head, t, used + (label,))]
    return ways


def simple_rounds(graph, u):
    """All rounds from u in which no node comes twice but u at both ends."""
    rounds = []
    for label, tail, head, _, _ in graph.edges:
        if tail == u:
            rounds += [(label,) + rest for rest in simple_ways(graph, head, u)]
    return rounds


def price(graph, labels):
    prices = {edge[0]: edge[3] for edge in graph.edges}
    return sum(prices[label] for label in labels)


def way_claim(graph, s, t):
    ways = simple_ways(graph, s, t)
    if not ways:
        return ("no way", s, t)
    for u in graph.nodes:
        if simple_ways(graph, s, u) and simple_ways(graph, u, t):
            if any(price(graph, labels) < 0 for labels in simple_rounds(graph, u)):
                return ("ever less", s, t)
    return ("distance", s, t, min(price(graph, labels) for labels in ways))


def sides(graph, s, t):
    """All sides with s, without t."""
    others = [name for name in graph.nodes if name not in (s, t)]
    for many in range(len(others) + 1):
        for some in itertools.combinations(others, many):
            yield tuple(name for name in graph.nodes if name == s or name in some)


def leaving(graph, side):
    return [edge for edge in graph.edges if edge[1] in side and edge[2] not in side]


def least_room(graph, s, t):
    return min(sum(edge[4] for edge in leaving(graph, side)) for side in sides(graph, s, t))


def out_less_in(graph, flow, name):
    out = sum(sent for sent, edge in zip(flow, graph.edges) if edge[1] == name)
    return out - sum(sent for sent, edge in zip(flow, graph.edges) if edge[2] == name)


def all_flows(graph, s, t):
    """All flows from s to t."""
    for flow in itertools.product(*[range(edge[4] + 1) for edge in graph.edges]):
        if all(out_less_in(graph, flow, name) == 0 for name in graph.nodes if name not in (s, t)):
            yield flow


def cost(graph, flow):
    return sum(sent * edge[3] for sent, edge in zip(flow, graph.edges))


def least_costs(graph, s, t):
    """For each amount from 0 on of which there are flows the least cost."""
    costs = {}
    for flow in all_flows(graph, s, t):
        amount = out_less_in(graph, flow, s)
        if amount >= 0:
            costs[amount] = min(costs.get(amount, cost(graph, flow)), cost(graph, flow))
    return costs


def most_apart(sets):
    """The greatest number of these sets of which no two have a common member."""
    if not sets:
        return 0
    first, *rest = sets
    return max(most_apart(rest), 1 + most_apart([other for other in rest if not first & other]))


def edge_ways(graph, s, t):
    least = {frozenset(labels) for labels in edgewise_ways(graph, s, t)}
    return most_apart(sorted(least, key=sorted))


def node_ways(graph, s, t):
    heads = {edge[0]: edge[2] for edge in graph.edges}
    inner = {frozenset(heads[label] for label in labels[:-1]) for labels in simple_ways(graph, s, t)}
    return most_apart(sorted(inner, key=sorted))


def subsets(members):
    """All tuples of some of the members, in their order."""
    for many in range(len(members) + 1):
        yield from itertools.combinations(members, many)


def joined_sets(names, edges):
    """The sets of names joined by the edges that have both ends among them."""
    sets = [{name} for name in names]
    for edge in edges:
        touched = [some for some in sets if some & set(edge[1:3])]
        if set(edge[1:3]) <= set(names):
            sets = [some for some in sets if some not in touched] + [set().union(*touched)]
    return sets


def parts(graph):
    rows = [tuple(name for name in graph.nodes if name in some) for some in joined_sets(graph.nodes, graph.edges)]
    return tuple(sorted(rows, key=lambda row: graph.nodes.index(row[0])))


def others_joined(graph, name):
    """The nodes that are joined with this one, without itself."""
    return tuple(other for row in parts(graph) if name in row for other in row if other != name)


def bridges(graph):
    return tuple(edge[0] for edge in graph.edges if len(parts(graph.without_edge(edge[0]))) > len(parts(graph)))


def cut_nodes(graph):
    return tuple(
        name for name in graph.nodes if len(joined_sets(others_joined(graph, name), graph.edges)) > 1
    )


def across(graph, side):
    """The edges with one end in the side and one out."""
    return [edge for edge in graph.edges if len(set(edge[1:3]) & set(side)) == 1 and edge[1] != edge[2]]


def walks_edgewise(graph, here, used=()):
    """All pairs of a node and a walk to it from here in which no edge comes twice."""
    yield here, used
    for label, tail, head, _, _ in graph.edges:
        if label not in used and here in (tail, head):
            yield from walks_edgewise(graph, head if here == tail else tail, used + (label,))


def circles(graph):
    """All pairs of a node and a circle from it."""
    for name in graph.nodes:
        yield from [(end, labels) for end, labels in walks_edgewise(graph, name) if end == name and labels]


def strong_parts(graph):
    def leads(s, t):
        return bool(simple_ways(graph, s, t))

    rows = []
    for s in graph.nodes:
        row = tuple(t for t in graph.nodes if leads(s, t) and leads(t, s))
        if row not in rows:
            rows.append(row)
    return tuple(rows)


def orders(graph):
    """All rows of all nodes in which each edge leads further on."""
    for row in itertools.permutations(graph.nodes):
        if all(row.index(edge[1]) < row.index(edge[2]) for edge in graph.edges):
            yield row


def spanning_forests(graph):
    """All spanning forests."""
    many = len(graph.nodes) - len(parts(graph))
    for labels in itertools.combinations([edge[0] for edge in graph.edges], many):
        chosen = [edge for edge in graph.edges if edge[0] in labels]
        if len(joined_sets(graph.nodes, chosen)) == len(parts(graph)):
            yield labels


def trees(graph, r):
    """All trees from r."""
    entering = [[edge for edge in graph.edges if edge[2] == name] for name in graph.nodes if name != r]
    for chosen in itertools.product(*entering):
        found, before = {r}, set()
        while found != before:
            before = found
            found = before | {edge[2] for edge in chosen if edge[1] in before}
        if len(found) == len(graph):
            yield tuple(edge[0] for edge in graph.edges if edge in chosen)


def matchings(graph, left=None):
    """All matchings."""
    edges = graph.edges if left is None else left
    if not edges:
        return [()]
    first, rest = edges[0], edges[1:]
    found = matchings(graph, rest)
    if first[1] != first[2]:
        apart = [edge for edge in rest if not set(first[1:3]) & set(edge[1:3])]
        found = found + [first[:1] + labels for labels in matchings(graph, apart)]
    return found


def perfect_matchings(graph):
    return [labels for labels in matchings(graph) if 2 * len(labels) == len(graph)]


def odd_parts(graph, gone):
    names = [name for name in graph.nodes if name not in gone]
    return sum(len(some) % 2 for some in joined_sets(names, graph.edges))


def two_sides(graph):
    """All sides for which each edge has one end in it and one out."""
    for side in subsets(graph.nodes):
        if len(across(graph, side)) == len(graph.edges):
            yield side


def covers(graph):
    """All covers."""
    for nodes in subsets(graph.nodes):
        if all(set(edge[1:3]) & set(nodes) for edge in graph.edges):
            yield nodes


def tours(graph, name):
    """All tours from the node, those first whose labels come first."""
    for end, labels in walks_edgewise(graph, name):
        if end == name and len(labels) == len(graph.edges):
            yield labels


def room_across(graph, side):
    return sum(edge[4] for edge in across(graph, side))


def least_cut(graph, a, b):
    return min(room_across(graph, side) for side in sides(graph, a, b))


def cut_tree_rows(graph):
    """All rows for which the claim of a cut tree is true."""
    pairs = [(a, b, least_cut(graph, a, b)) for a, b in itertools.combinations(graph.nodes, 2)]
    for rows in itertools.combinations(pairs, len(graph) - 1):
        edges = [("x", a, b) for a, b, _ in rows]
        if len(joined_sets(graph.nodes, edges)) == 1:
            sets = [joined_sets(graph.nodes, edges[:at] + edges[at + 1:]) for at in range(len(rows))]
            if all(room_across(graph, two[0]) == row[2] for two, row in zip(sets, rows)):
                yield rows


def neighbours(graph, name):
    return {end for edge in graph.edges if name in edge[1:3] for end in edge[1:3] if end != name}


def are_mutual(graph, names):
    return all(other in neighbours(graph, name) for name, other in itertools.combinations(names, 2))


def holes(graph):
    """All holes."""
    joined = pairs_joined(graph)
    for many in range(4, len(graph) + 1):
        for row in itertools.permutations(graph.nodes, many):
            beside = {frozenset(pair) for pair in zip(row, row[1:] + row[:1])}
            if beside <= joined and sum(pair <= set(row) for pair in joined) == many:
                yield row


def eliminations(graph):
    """All rows of all nodes, of each the neighbours behind it being neighbours of one another."""
    for row in itertools.permutations(graph.nodes):
        behind = [neighbours(graph, name) & set(row[at:]) for at, name in enumerate(row)]
        if all(are_mutual(graph, sorted(names)) for names in behind):
            yield row


def colourings(graph, many):
    """All ways to give numbers below many."""
    for numbers in itertools.product(range(many), repeat=len(graph)):
        at = dict(zip(graph.nodes, numbers))
        if all(at[edge[1]] != at[edge[2]] for edge in graph.edges if edge[1] != edge[2]):
            yield numbers


def drawings(graph):
    """All drawings, the first member of each turn being the same."""
    choices = []
    for name in graph.nodes:
        ends = [edge[0] for edge in graph.edges for end in edge[1:3] if end == name]
        choices.append(sorted({(*ends[:1], *rest) for rest in itertools.permutations(ends[1:])}))
    return itertools.product(*choices)


def faces(graph, drawing):
    """The number of faces, the sides being told by the node and the place in its turn at which they leave."""
    places = {}
    for name, labels in zip(graph.nodes, drawing):
        for at, label in enumerate(labels):
            # Of a loop the tail's end comes first, and so does the tail of another edge here.
            ends = places.setdefault(label, [])
            ends.insert(0 if graph[label][1] == name and graph[label][1] != graph[label][2] else len(ends), (name, at))
    sides_left = {end for ends in places.values() for end in ends}
    many = 0
    while sides_left:
        many += 1
        name, at = min(sides_left)
        while (name, at) in sides_left:
            sides_left.remove((name, at))
            labels = drawing[graph.nodes.index(name)]
            one, other = places[labels[at]]
            name, came = other if (name, at) == one else one
            at = (came + 1) % len(drawing[graph.nodes.index(name)])
    return many


def is_plane_drawing(graph, drawing):
    nodes = [name for name in graph.nodes if any(name in edge[1:3] for edge in graph.edges)]
    return len(nodes) - len(graph.edges) + faces(graph, drawing) == 2 * len(joined_sets(nodes, graph.edges))


def is_plane(pairs, known={}):
    """Whether no K5 and no K33 comes of these pairs (a frozenset of frozensets) by taking out and drawing together."""
    if pairs not in known:
        known[pairs] = _is_plane(pairs, known)
    return known[pairs]


def _is_plane(pairs, known):
    names = sorted({name for pair in pairs for name in pair})
    degrees = {name: sum(name in pair for pair in pairs) for name in names}
    if len(pairs) < 9 or len(names) < 5:
        return True
    if len(pairs) == 10 and len(names) == 5:
        return False
    if len(pairs) == 9 and set(degrees.values()) == {3} and len(names) == 6:
        first = [name for name in names if frozenset((names[0], name)) in pairs]
        if not any(pair <= set(first) for pair in pairs):
            return False
    # A node of few neighbours is drawn together with one of them; else all edges are tried.
    few = [name for name in names if degrees[name] < 3]
    tried = [pair for pair in pairs if not few or few[0] in pair]
    smaller = [drawn_together(pairs, *sorted(pair)) for pair in (tried[:1] if few else tried)]
    return all(is_plane(some, known) for some in smaller + ([] if few else [pairs - {pair} for pair in pairs]))


def drawn_together(pairs, one, other):
    """The pairs with one in the place of other."""
    drawn = [frozenset(one if name == other else name for name in pair) for pair in pairs]
    return frozenset(pair for pair in drawn if len(pair) == 2)


def pairs_joined(graph):
    """The pairs of unlike nodes that edges join."""
    return frozenset(frozenset(edge[1:3]) for edge in graph.edges if edge[1] != edge[2])
