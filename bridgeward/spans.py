"""How far the price of one edge may change before a claim is no longer true."""

from bridgeward.claims import answer_of, claim_holds, is_claim, questions_of, warrant_of
from bridgeward.errors import InvalidClaim, Refused
from bridgeward.values import has_parts, is_integer

# How many given parts stand in each of the claims behind its kind, before the answer itself.
GIVEN_PARTS = {"distance": 2, "cheapest": 3, "forest": 0, "tree": 1, "perfect": 0}
# The price at which, and at the next one, a claim is looked at that is true of all prices.
FAR_PRICE = -1000000


def _is_spanned(value):
    """Whether value is a claim of one of the kinds that a price may change."""
    return is_claim(value) and value[0] in GIVEN_PARTS


def _is_true_at(graph, claim, label, price):
    """Whether the claim is true if the edge has this price."""
    return answer_of(graph.with_price(label, price), questions_of(claim)[0]) == claim


def _lowest_price(graph):
    """A price below which an answer does not change, or falls with the price.

    With the edge and without it answers are sums of other prices, or less
    than all integers; they differ by no more than all prices three times.
    """
    return -1 - 3 * sum([abs(edge[3]) for edge in graph.edges])


def price_span(graph, claim, label):
    """The least and the greatest price of the edge with which the claim is true; None if there is none."""
    if not _is_spanned(claim):
        raise InvalidClaim(claim)
    if answer_of(graph, questions_of(claim)[0]) != claim:
        raise Refused(claim)
    present = graph[label][3]
    if not _is_true_at(graph, claim, label, present + 1):
        return (present, present)
    under, low = _lowest_price(graph), present
    if _is_true_at(graph, claim, label, under):
        return (None, None)
    while low - under > 1:
        middle = (under + low) // 2
        if _is_true_at(graph, claim, label, middle):
            low = middle
        else:
            under = middle
    return (low, None)


def _answer_at(graph, claim, label, price):
    """What is true in the claim's place if the edge has this price, and some warrant of it."""
    question = questions_of(claim)[0]
    changed = graph.with_price(label, price)
    return answer_of(changed, question), warrant_of(changed, question)


def _warrant_at(graph, claim, label, price):
    """Some warrant of the claim if the edge has this price, of which it is true."""
    return warrant_of(graph.with_price(label, price), questions_of(claim)[0])


def span_warrant(graph, claim, label):
    """Some span warrant of the span of the claim."""
    low, high = price_span(graph, claim, label)
    if low is None:
        return (_warrant_at(graph, claim, label, FAR_PRICE), _warrant_at(graph, claim, label, FAR_PRICE + 1))
    under = _answer_at(graph, claim, label, low - 1)
    one = _warrant_at(graph, claim, label, low)
    if high is None:
        return (under, one, _warrant_at(graph, claim, label, low + 1))
    return (under, one, _answer_at(graph, claim, label, low + 1))


def _holds_at(graph, claim, label, price, warrant):
    """Whether the warrant is one of the claim if the edge has this price."""
    return claim_holds(graph.with_price(label, price), claim, warrant)


def _is_in_place_of(claim, other):
    """Whether the other value, if it is a claim, may be true in the claim's place."""
    if not isinstance(other, tuple) or other == claim:
        return False
    given = 1 + GIVEN_PARTS[claim[0]]
    return other[:given] == claim[:given] or claim[0] == "distance" and other == ("ever less", *claim[1:3])


def _differs_at(graph, claim, label, price, value):
    """Whether value is a pair of a claim in the place of this one and its warrant if the edge has this price."""
    if not has_parts(value, 2) or not _is_in_place_of(claim, value[0]):
        return False
    return _holds_at(graph, value[0], label, price, value[1])


def span_holds(graph, claim, label, low, high, given):
    """Whether given is a span warrant of the claim for the span from low to high of the edge's price."""
    if not _is_spanned(claim) or label not in [edge[0] for edge in graph.edges]:
        return False
    if low is None and high is None:
        return _is_true_from_far(graph, claim, label, given)
    if not is_integer(low) or not has_parts(given, 3):
        return False
    under, one, over = given
    if not _differs_at(graph, claim, label, low - 1, under) or not _holds_at(graph, claim, label, low, one):
        return False
    if high is None:
        return _holds_at(graph, claim, label, low + 1, over)
    if not is_integer(high) or low != high or low != graph[label][3]:
        return False
    return _differs_at(graph, claim, label, low + 1, over)


def _is_true_from_far(graph, claim, label, value):
    """Whether value is a pair of warrants of the claim for the two prices at which all prices are looked at."""
    if not has_parts(value, 2):
        return False
    one, other = value
    return _holds_at(graph, claim, label, FAR_PRICE, one) and _holds_at(graph, claim, label, FAR_PRICE + 1, other)
