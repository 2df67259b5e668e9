"""Passings gone through level by level, for frames of few jacks, two-coloured or not.

A file of the program's own use, not of the interface. A lot of jacks is told as a
number with the bit of each of them. A tier is a pair (level, sizes): sizes a dict with,
for each lot of jacks that can be passed at the level, how many they are.
"""


def _sizes(near, jacks):
    """A dict with, for each lot of jacks of which no two are neighbours, how many they are."""
    sizes = {0: 0}
    for jack in jacks:
        barred = sum([1 << far for far in near[jack]])
        for lot in list(sizes):
            if lot & barred == 0:
                sizes[lot | (1 << jack)] = sizes[lot] + 1
    return sizes


def tiers_of(near, layers):
    """The list of the tiers, levels ascending, of layers: pairs of a level and its jacks."""
    # The levels of a jack follow one another: where a level is left out between two tiers,
    # they have no jack in common, and what is taken at the one bars nothing at the other.
    return [(level, _sizes(near, jacks)) for level, jacks in layers]


def how_many(tiers):
    """How many PASSINGS there are."""
    table = {0: 1}
    for _, sizes in tiers:
        table = {lot: sum([table[own] for own in table if own & lot == 0]) for lot in sizes}
    return sum(table.values())


def _joined(table, lot, size):
    """The best entries of table that lot can follow, with its size: how great, and how many they are."""
    fitting = [table[own] for own in table if own & lot == 0]
    most = max([great for great, many in fitting])
    return (most + size, sum([many for great, many in fitting if great == most]))


def _tables(tiers):
    """For each tier a dict with, for each lot, the best PASSINGS of the tiers up to it that end with that lot.

    They are told as a pair: how many pairs they have, and how many such PASSINGS there are.
    """
    tables = []
    table = {0: (0, 1)}
    for _, sizes in tiers:
        table = {lot: _joined(table, lot, sizes[lot]) for lot in sizes}
        tables.append(table)
    return tables


def greatest_told(tiers):
    """The pair of how many pairs a greatest PASSING has, and how many greatest there are."""
    tables = [{0: (0, 1)}] + _tables(tiers)
    return _joined(tables[-1], 0, 0)


def greatest_taken(tiers):
    """The list of the pairs of a greatest PASSING."""
    tables = _tables(tiers)
    wanted = greatest_told(tiers)[0]
    above = 0
    taken = []
    for (level, sizes), table in list(zip(tiers, tables))[::-1]:
        lots = [lot for lot in table if lot & above == 0 and table[lot][0] == wanted]
        above = lots[0]
        wanted -= sizes[above]
        taken = taken + [(jack, level) for jack in range(above.bit_length()) if (above >> jack) & 1]
    return taken


def totals(tiers):
    """A dict with, for each level, a dict with, for each lot, the most pairs of a PASSING that takes just it there."""
    upward = _tables(tiers)
    downward = _tables(tiers[::-1])[::-1]
    found = {}
    for (level, sizes), below, above in zip(tiers, upward, downward):
        found[level] = {lot: below[lot][0] + above[lot][0] - sizes[lot] for lot in sizes}
    return found


def most_at(found, pair, taken):
    """The most pairs, by totals, of a PASSING that has pair (taken 1) or has not (taken 0)."""
    jack, level = pair
    own = found[level]
    return max([own[lot] for lot in own if (lot >> jack) & 1 == taken])
