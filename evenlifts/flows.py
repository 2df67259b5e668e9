"""Greatest loads that two sides can bear, and what they tell of heaviest sets without two members near.

A file of the program's own use, not of the interface. near is a dict with, for each
member of both sides, the list of the members of the other side that are near it.
Each member has a weight, from 0 on; loads are numbers given to couples of near ones, a
member of side first, so that no member bears more than its weight.
"""

from evenlifts.rings import way_back


def _way_to_room(near, room, loads, start, dead):
    """The way from start, of near ones and of loads that can be taken back, to a member with room; () for none."""
    came = {start: None}
    queue = [start]
    at = 0
    while at < len(queue):
        here = queue[at]
        at += 1
        for far in near[here]:
            if far in came or far in dead:
                continue
            came[far] = here
            if room[far] > 0:
                return tuple(way_back(came, far)[::-1])
            for own in near[far]:
                if own not in came and own not in dead and loads.get((own, far), 0) > 0:
                    came[own] = far
                    queue.append(own)
    # From all that was come to no way will ever lead to room: so none needs to try there again.
    for member in came:
        dead[member] = True
    return ()


def _load_on(room, loads, way):
    """Load as much along way as can be."""
    given = list(zip(way[::2], way[1::2]))
    taken = list(zip(way[2::2], way[1::2]))
    many = min([room[way[0]], room[way[-1]]] + [loads[step] for step in taken])
    for step in given:
        loads[step] = loads.get(step, 0) + many
    for step in taken:
        loads[step] -= many
    room[way[0]] -= many
    room[way[-1]] -= many


def loaded(near, weights, side):
    """The pair of the loads, as great as can be, and of the room that is left at each member."""
    room = {member: weights[member] for member in near}
    loads = {}
    dead = {}
    for start in side:
        while room[start] > 0 and start not in dead:
            way = _way_to_room(near, room, loads, start, dead)
            if way:
                _load_on(room, loads, way)
    return (loads, room)


def heaviest_loose(near, weights, side, across):
    """The list of the members of a heaviest set of no two near ones."""
    loads, room = loaded(near, weights, side)
    kept = {start: True for start in side if room[start] > 0}
    barred = {}
    ahead = list(kept)
    while ahead:
        here = ahead.pop()
        for far in near[here]:
            if far in barred:
                continue
            barred[far] = True
            for own in near[far]:
                if own not in kept and loads.get((own, far), 0) > 0:
                    kept[own] = True
                    ahead.append(own)
    return list(kept) + [member for member in across if member not in barred]
