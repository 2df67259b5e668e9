"""What the program tells, found by going through all that there is: for tests to hold it against."""

import heapq
import itertools

from evenlifts.frames import is_two_coloured
from making import Maker, are_close, doable, pairs_of, put, some_frames


def made(seed, many, least=0, most=15, low=-2, high=4, frames=None):
    """Frames and stands with few enough passable pairs to go through all their sets."""
    maker = Maker(seed)
    for frame in frames or some_frames():
        here = 0
        for _ in range(200):
            one, other = maker.stand(frame, low, high), maker.stand(frame, low, high)
            if least <= len(pairs_of(one, other)) <= most:
                yield frame, one, other
                here += 1
                if here == many:
                    break


def lifted(seed):
    """Frames that are not two-coloured, each jack two or three levels higher in other."""
    maker = Maker(seed)
    for frame in some_frames():
        if not is_two_coloured(frame):
            for _ in range(3):
                one, other = maker.stand(frame, 0, 1), maker.stand(frame, 2, 3)
                if len(pairs_of(one, other)) <= 10:
                    yield frame, one, other


def slow_passings(frame, one, other):
    """All passings, from all sets of passable pairs: no two of a set close."""
    found = [()]
    for pair in pairs_of(one, other):
        found += [own + (pair,) for own in found if not any(are_close(frame, pair, far) for far in own)]
    return sorted(found)


def cheapest_ways(frame, start, low, high, cost):
    """A dict with, for each stand with heights from low to high, what a cheapest way to it from start costs.

    cost tells what a deed costs, None if it must not be done.
    """
    found, ahead = {}, [(0, start)]
    while ahead:
        paid, stand = heapq.heappop(ahead)
        if stand in found:
            continue
        found[stand] = paid
        for deed in doable(frame, stand):
            more = cost(deed)
            if low <= deed[1] <= high and more is not None:
                moved = put(stand, deed)
                if moved not in found:
                    heapq.heappush(ahead, (paid + more, moved))
    return found


def even_ways(frame, start, others):
    """How many deeds it takes from start, for each stand not far beyond start and others."""
    heights = [height for stand in (start,) + tuple(others) for height in stand]
    return cheapest_ways(frame, start, min(heights) - 1, max(heights) + 1, lambda deed: 1)


def fewest_deeds(frame, one, other):
    """How many deeds it takes, by a search over all stands."""
    return even_ways(frame, one, [other])[other]


def odd_rounds(frame, one, other):
    """All odd rounds of passable pairs, by going on from each pair till it is come to again."""
    pairs = pairs_of(one, other)
    near = {pair: [far for far in pairs if are_close(frame, pair, far)] for pair in pairs}
    ways, found = [(pair,) for pair in pairs], []
    while ways:
        way = ways.pop()
        for far in near[way[-1]]:
            if far == way[0] and len(way) % 2 == 1:
                found.append(way + (far,))
            elif far not in way:
                ways.append(way + (far,))
    return found


def all_sets(things, most):
    """All sets of up to most of things."""
    return [own for many in range(most + 1) for own in itertools.combinations(things, many)]
