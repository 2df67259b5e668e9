"""A yard of the tests' own, and edits for it: for Yard and desk to be held against."""

from making import put, stands


class Play:
    """What an edit makes of a frame, a stand, prices and a goal, as the document tells it."""

    def __init__(self, frame):
        n = frame[0]
        self.n, self.beams = n, set(frame[1])
        self.stand, self.even, self.told, self.goal = [0] * n, [1] * n, [{} for _ in range(n)], [None] * n

    def held(self):
        """Frame, stand, prices and goal as tuples."""
        prices = tuple((even, tuple(sorted(told.items()))) for even, told in zip(self.even, self.told))
        return (self.n, tuple(sorted(self.beams))), tuple(self.stand), prices, tuple(self.goal)

    def do(self, edit):
        """Do edit, return None; or return the name of the error and its attributes, nothing done."""
        return getattr(self, "do_" + edit[0])(*edit[1:])

    def no_jack(self, *jacks):
        for jack in jacks:
            if not 0 <= jack < self.n:
                return ("NoJack", {"jack": jack})
        return None

    def moved(self, stand, jack, height):
        """The pair of an error or None, and of the stand behind."""
        if self.no_jack(jack):
            return self.no_jack(jack), stand
        if stand[jack] == height:
            return ("Unfit", {}), stand
        behind = put(tuple(stand), (jack, height))
        torn = sorted(beam for beam in self.beams if not stands((self.n, (beam,)), behind))
        return (("NoStand", {"beam": torn[0]}), stand) if torn else (None, list(behind))

    def do_move(self, jack, height):
        wrong, self.stand = self.moved(self.stand, jack, height)
        return wrong

    def do_plan(self, plan):
        stand = self.stand
        for jack, height in plan:
            wrong, stand = self.moved(stand, jack, height)
            if wrong:
                return wrong
        self.stand = stand
        return None

    def do_beam(self, low, high):
        wrong = self.no_jack(low, high)
        if wrong:
            return wrong
        if low >= high or (low, high) in self.beams:
            return ("Unfit", {})
        if abs(self.stand[low] - self.stand[high]) > 1:
            return ("NoStand", {"beam": (low, high)})
        self.beams.add((low, high))
        return None

    def do_out(self, low, high):
        if (low, high) not in self.beams:
            return ("NoBeam", {"beam": (low, high)})
        left = self.beams - {(low, high)}
        if not all(any(jack in beam for beam in left) for jack in (low, high)):
            return ("Unfit", {})
        self.beams = left
        return None

    def do_more(self, jack):
        wrong = self.no_jack(jack)
        if wrong:
            return wrong
        self.beams.add((jack, self.n))
        self.n += 1
        self.stand = list(self.stand) + [self.stand[jack]]
        self.even, self.told, self.goal = self.even + [1], self.told + [{}], self.goal + [None]
        return None

    def do_goal(self, jack, height):
        wrong = self.no_jack(jack)
        if not wrong:
            self.goal[jack] = height
        return wrong

    def do_price(self, jack, level, price):
        wrong = self.no_jack(jack)
        if not wrong:
            self.told[jack][level] = price
        return wrong

    def do_even(self, jack, number):
        wrong = self.no_jack(jack)
        if not wrong:
            self.even[jack] = number
        return wrong


def replayed(frame, edits):
    """A Play behind all of edits."""
    play = Play(frame)
    for edit in edits:
        assert play.do(edit) is None
    return play


def some_edit(maker, play, least=-1):
    """An edit of whatever kind, that can be done or not; jacks from least on."""
    def jack():
        return maker.among(least, play.n) if maker.below(5) == 0 else maker.below(play.n)

    word = maker.one_of(("move", "move", "move", "plan", "plan", "beam", "out", "more", "goal", "goal", "price", "even"))
    if word == "move":
        at = jack()
        near = play.stand[at] if 0 <= at < play.n else 0
        return ("move", at, near + maker.among(-2, 2))
    if word == "plan":
        deeds, stand = [], tuple(play.stand)
        for _ in range(maker.below(4)):
            at = maker.below(play.n)
            deeds.append((at, stand[at] + maker.one_of((-1, -1, 1, 1, 1, 0, 2))))
            stand = put(stand, deeds[-1])
        return ("plan", tuple(deeds))
    if word in ("beam", "out"):
        beams = sorted(play.beams)
        return (word,) + (maker.one_of(beams) if maker.below(2) else (jack(), jack()))
    if word == "more":
        return ("more", jack())
    if word == "goal":
        return ("goal", jack(), None if maker.below(4) == 0 else maker.among(-3, 3))
    if word == "price":
        return ("price", jack(), maker.among(-3, 3), None if maker.below(4) == 0 else maker.below(9))
    return ("even", jack(), maker.among(1, 5))
