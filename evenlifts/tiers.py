"""Passings gone through level by level, for frames of few jacks, two-coloured or not.

A file of the program's own use, not of the interface. A lot of jacks is told as a
number with the bit of each of them. A tier is a pair (level, sizes): sizes a dict with,
for each lot of jacks that can be passed at the level, what they weigh together.
"""


def _sizes(near, row, weights):
    """A dict with, for each lot of the jacks of row, pairs of one level, no two near, what they weigh."""
    sizes = {0: 0}
    for jack, level in row:
        barred = sum([1 << far for far, height in near[(jack, level)] if height == level])
        for lot in list(sizes):
            if lot & barred == 0:
                sizes[lot | (1 << jack)] = sizes[lot] + weights[(jack, level)]
    return sizes


def tiers_of(near, weights):
    """The list of the tiers, levels ascending, of the pairs of near, each with its weight."""
    rows = {}
    for jack, level in near:
        rows.setdefault(level, []).append((jack, level))
    tiers = []
    for level in sorted(rows):
        # What is taken below a gap bars nothing above it: so an empty tier stands for it.
        if tiers and tiers[-1][0] < level - 1:
            tiers.append((level - 1, {0: 0}))
        tiers.append((level, _sizes(near, rows[level], weights)))
    return tiers


def how_many(tiers):
    """How many PASSINGS there are."""
    table = {0: 1}
    for _, sizes in tiers:
        table = {lot: sum([table[own] for own in table if own & lot == 0]) for lot in sizes}
    return sum(table.values())


def _joined(table, lot, size):
    """The best entries of table that lot can follow, with its size: how great, and how many they are."""
    fitting = [table[own] for own in table if own & lot == 0]
    most = max([great for great, many in fitting])
    return (most + size, sum([many for great, many in fitting if great == most]))


def _tables(tiers):
    """For each tier a dict with, for each lot, the best PASSINGS of the tiers up to it that end with that lot.

    They are told as a pair: what they weigh, and how many such PASSINGS there are.
    """
    tables = []
    table = {0: (0, 1)}
    for _, sizes in tiers:
        table = {lot: _joined(table, lot, sizes[lot]) for lot in sizes}
        tables.append(table)
    return tables


def heaviest_told(tiers):
    """The pair of what a heaviest PASSING weighs, and of how many heaviest there are."""
    tables = [{0: (0, 1)}] + _tables(tiers)
    return _joined(tables[-1], 0, 0)


def heaviest_taken(tiers):
    """The list of the pairs of a heaviest PASSING."""
    tables = _tables(tiers)
    wanted = heaviest_told(tiers)[0]
    above = 0
    taken = []
    for (level, sizes), table in list(zip(tiers, tables))[::-1]:
        lots = [lot for lot in table if lot & above == 0 and table[lot][0] == wanted]
        above = lots[0]
        wanted -= sizes[above]
        taken = taken + [(jack, level) for jack in range(above.bit_length()) if (above >> jack) & 1]
    return taken


def totals(tiers):
    """A dict with, for each level, a dict with, for each lot, the most weight of a PASSING that takes just it there."""
    upward = _tables(tiers)
    downward = _tables(tiers[::-1])[::-1]
    found = {}
    for (level, sizes), below, above in zip(tiers, upward, downward):
        found[level] = {lot: below[lot][0] + above[lot][0] - sizes[lot] for lot in sizes}
    return found


def most_at(found, pair, taken):
    """The most weight, by totals, of a PASSING that has pair (taken 1) or has not (taken 0)."""
    jack, level = pair
    own = found[level]
    return max([own[lot] for lot in own if (lot >> jack) & 1 == taken])
