"""The most pairs without common members, of given pairs of the numbers below some number.

A mask tells some of the numbers: it is the sum of 1 << number for each of them.
"""


def pair_table(many, pairs):
    """For each mask the most pairs of its numbers; the pairs are of unlike numbers below many."""
    partners = [[min(pair) for pair in pairs if max(pair) == number] for number in range(many)]
    table = [0]
    for mask in range(1, 1 << many):
        greatest = mask.bit_length() - 1
        rest = mask - (1 << greatest)
        counts = [table[rest - (1 << low)] + 1 for low in partners[greatest] if rest >> low & 1]
        table.append(max([table[rest]] + counts))
    return table


def chosen_places(many, pairs):
    """The places in pairs of as many of them as can be chosen."""
    table = pair_table(many, pairs)
    left = (1 << many) - 1
    places = []
    for place, (one, other) in enumerate(pairs):
        both = 1 << one | 1 << other
        # A pair that does not fit into a greatest choice now will fit into none later on.
        if left & both == both and table[left - both] + 1 == table[left]:
            places.append(place)
            left -= both
    return places


def spare_and_near(many, pairs):
    """The numbers that some greatest choice leaves out, and those others that make pairs with these.

    Without the latter the former fall into odd parts, more of them than there
    are of the latter by what each greatest choice leaves out (Gallai, Edmonds).
    """
    table = pair_table(many, pairs)
    everyone = (1 << many) - 1
    spare = [number for number in range(many) if table[everyone - (1 << number)] == table[everyone]]
    beside = [number for pair in pairs if pair[0] in spare or pair[1] in spare for number in pair]
    return spare, [number for number in range(many) if number in beside and number not in spare]
