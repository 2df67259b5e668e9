"""What can be parted into two sides, no two of a side near one another, and why not.

A file of the program's own use, not of the interface. near is a dict with, for each
member, the list of the members that are near it.
"""


def _grown(near, start, colour, came):
    """Colour all that start is held together with in turns; came tells from where each was come to."""
    colour[start] = 0
    came[start] = None
    queue = [start]
    at = 0
    while at < len(queue):
        here = queue[at]
        at += 1
        for far in near[here]:
            if far not in colour:
                colour[far] = 1 - colour[here]
                came[far] = here
                queue.append(far)


def _painted(near):
    """The pair of a dict of colours in turns, the first member of each part 0, and of came."""
    colour = {}
    came = {}
    for start in near:
        if start not in colour:
            _grown(near, start, colour, came)
    return (colour, came)


def _clashes(near, colour):
    """Whether two members of one colour are near one another."""
    return any([colour[here] == colour[far] for here in near for far in near[here]])


def turns_of(near):
    """A dict of colours, unlike for near ones, the first member of each part 0; None if there is none."""
    colour = _painted(near)[0]
    if _clashes(near, colour):
        return None
    return colour


def two_sides(near):
    """The pair of the lists of the members of both colours; None if there are none."""
    colour = turns_of(near)
    if colour is None:
        return None
    return ([own for own in near if colour[own] == 0], [own for own in near if colour[own] == 1])


def way_back(came, member):
    """The list of the members from member to the one from which, by came, all were come to."""
    way = [member]
    while came[way[-1]] is not None:
        way.append(came[way[-1]])
    return way


def odd_way(near):
    """A tuple of members, each near the next one, round in an odd number of steps; None if there is none."""
    colour, came = _painted(near)
    closing = [(here, far) for here in near for far in near[here] if colour[here] == colour[far]]
    if not closing:
        return None
    here, there = closing[0]
    # Both ways back are equally long: ends of one colour were come to in as many steps.
    low, high = way_back(came, here), way_back(came, there)
    while low[-2] == high[-2]:
        low.pop()
        high.pop()
    return tuple(low + high[::-1][1:] + [here])


def is_odd_way(near, thing):
    """Whether thing, a tuple of members, leads round, none twice, in an odd number of steps."""
    steps = len(thing) - 1
    if steps < 1 or steps & 1 == 0 or thing[0] != thing[-1]:
        return False
    if not all([far in near[here] for here, far in zip(thing, thing[1:])]):
        return False
    return len(set(thing[1:])) == steps
