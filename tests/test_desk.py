"""Promise [26], the desk: requests, one a line, and the replies of a yard."""

from evenlifts import desk, errors
from evenlifts.desk import is_request, last_yard, replies
from evenlifts.yard import Yard
from making import Case, FLOOR, Maker, WIDE, WIDE_TWO, listed, row, some_frames
from playing import Play, some_edit

EXAMPLES = r'''
>>> replies((2, ((0, 1),)), "move 0 1\nmove 0 2\nmore 1\nheights\nout 0 1\ngoal 2 3\naim\nfewest\nprice 2 1 -\ncost\nprice 1 1 -\nprice 1 2 5\ncost")
['done', 'no NoStand', 'done', '1 0 0', 'no Unfit', 'done', '1 2 3', '3', 'done', '4', 'done', 'done', 'no CanNot']
'''

PAIR = row(2)
NINE_ODD = (9, tuple(sorted([(jack, jack + 1) for jack in range(8)] + [(0, 2)])))
MOST = "9" * 13

REQUESTS = (
    "move 0 1", "move 12 -3", "move 0 0", "move 7 -" + MOST, "move " + MOST + " " + MOST, "beam 0 1", "beam 1 0", "beam 3 3",
    "out 0 1", "out 9 4", "more 0", "more 99", "goal 0 5", "goal 3 -5", "goal 1 -", "goal 0 -" + MOST, "price 0 1 2",
    "price 1 -3 0", "price 0 0 -", "price 0 5 " + MOST, "even 0 1", "even 5 " + MOST, "plan", "plan 0:1", "plan 0:1 1:-2 0:0",
    "plan " + MOST + ":-" + MOST, "undo", "redo", "heights", "aim", "fewest", "cost",
)
NO_REQUESTS = (
    "", " ", "move", "move 0", "move 0 1 2", "move 0 1 ", " move 0 1", "move  0 1", "move 0  1", "move\t0 1", "Move 0 1", "MOVE",
    "move -1 0", "move 0 -", "move - 0", "move a 0", "move 0 a", "move 00 1", "move 0 01", "move 0 -0", "move 0 +1", "move 0:1",
    "move 0 1" + MOST, "move 1" + MOST + " 0", "move 0 -1" + MOST, "move 0 1.0", "beam 0", "beam 0 1 2", "beam -1 0",
    "beam 0 -1", "beam - 1", "beam 0:1", "beam", "out", "out 0", "out -1 0", "out 0 -", "out 0 1 2", "more", "more -1",
    "more 0 1", "more -", "more a", "goal", "goal 0", "goal - 1", "goal -1 1", "goal 0 --", "goal 0 - 1", "goal 0 01",
    "goal 0 1" + MOST, "price", "price 0 1", "price 0 1 -1", "price 0 1 --", "price 0 - 1", "price -1 1 1", "price - 1 1",
    "price 0 1 2 3", "price 0 1:2", "price 0 1 1" + MOST, "even", "even 0", "even 0 0", "even 0 -1", "even 0 -", "even -1 1",
    "even 0 1 2", "even - 1", "even 0 1" + MOST, "plan 0", "plan 0:", "plan :1", "plan 0:1:2", "plan 0:1,1:2", "plan 0:1  1:2",
    "plan 0:1 ", "plan -1:1", "plan 0:-", "plan -:1", "plan 0:01", "plan 0: 1", "plan 0 1", "plan 0:1 1", "plan 0:1" + MOST,
    "plan 1" + MOST + ":0", "plans", "undo 1", "undo ", " undo", "Undo", "redo 0", "redo ", "heights 0", "heights ", "aim 0",
    "fewest 0", "cost 0", "frame", "stand", "prices", "twin", "edits", "-", "0", "0 1", "lift 0", "move 0 1\n", "\nmove 0 1",
    "undo\n", "\n", "heights\nheights", "move 0 1\r", "frame 2", "x" * 100, "goal 0 None", "move 0 True", "plan ()",
    "move 0 " + "7" * 5000,
)


def line_of(edit):
    """The request of an edit."""
    def word(part):
        return "-" if part is None else str(part)

    if edit[0] == "plan":
        return " ".join(["plan"] + ["{}:{}".format(*deed) for deed in edit[1]])
    return " ".join([edit[0]] + [word(part) for part in edit[1:]])


def asked_of(yard, line):
    """The reply of a yard, asked by hand."""
    def spaced(heights):
        return " ".join(str(height) for height in heights)

    try:
        if line == "heights":
            return spaced(yard.stand())
        if line == "aim":
            return spaced(yard.aim())
        if line in ("fewest", "cost"):
            return str(getattr(yard, line)())
        getattr(yard, line)()
    except (LookupError, ValueError) as wrong:
        return "no " + type(wrong).__name__
    return "done"


class Desk(Case):

    def test_examples(self):
        self.examples(EXAMPLES, {**vars(desk), **vars(errors)})

    def test_requests(self):
        for line in REQUESTS:
            self.assertIs(is_request(line), True, line)
            self.assertIs(is_request(line=line), True)
            self.assertEqual(len(replies(PAIR, line)), 1)
            # With a word more, or less, or a blank at an end, none of them is one.
            for wrong in (line + " ", " " + line, line + "\n", line + " x", line + " 0:", "x " + line, line.upper()):
                self.assertIs(is_request(wrong), False, wrong)
            if " " in line and line[:4] != "plan":
                self.assertIs(is_request(line.rsplit(" ", 1)[0]), False)
                self.assertIs(is_request(line + " 1"), False)
        for line in NO_REQUESTS:
            self.assertIs(is_request(line), False, line)

    def test_lines_that_are_no_requests(self):
        for wrong in NO_REQUESTS:
            if "\n" not in wrong and wrong != "":
                self.refused(errors.BadText, replies, PAIR, wrong, line=0)
                self.refused(errors.BadText, last_yard, PAIR, wrong, line=0)
        for wrong in NO_REQUESTS:
            if "\n" not in wrong:
                for at in range(3):
                    lines = ["move 0 9", "undo", "heights"]
                    lines.insert(at, wrong)
                    # Whatever a line ahead of it raises; and only the first one counts.
                    for text in ("\n".join(lines), "\n".join(lines + ["x", ""])):
                        self.refused(errors.BadText, replies, PAIR, text, line=at)
                        self.refused(errors.BadText, last_yard, PAIR, text, line=at)
        self.refused(errors.BadText, replies, PAIR, "undo\n", line=1)
        self.refused(errors.BadText, replies, PAIR, "\nundo", line=0)
        self.refused(errors.BadText, last_yard, PAIR, "\n", line=0)

    def test_no_lines(self):
        for frame in some_frames():
            self.assertEqual(self.tell(replies, frame, ""), [])
            self.assertEqual(last_yard(frame, ""), Yard(frame))
            self.assertEqual(last_yard(frame=listed(frame), text="").frame(), frame)

    def test_edits_are_their_lines(self):
        """Each edit by itself: what a yard makes of it."""
        maker = Maker(101)
        for frame in some_frames():
            play = Play(frame)
            for _ in range(25):
                edit = some_edit(maker, play, 0)
                line = line_of(edit)
                self.assertIs(is_request(line), True, line)
                yard, trouble = Yard(frame), Play(frame).do(edit)
                told = replies(frame, line)
                self.assertEqual(told, ["done" if trouble is None else "no " + trouble[0]])
                if trouble is None:
                    yard.do(edit)
                self.assertEqual(last_yard(frame, line), yard)
                play.do(edit)

    def test_texts_beside_a_yard(self):
        maker, seen = Maker(102), {}
        for frame in some_frames() + [FLOOR]:
            for _ in range(3):
                yard, lines, wanted = Yard(frame), [], []
                play = Play(frame)
                for _ in range(30):
                    if maker.below(3):
                        edit = some_edit(maker, play, 0)
                        trouble = play.do(edit)
                        lines.append(line_of(edit))
                        if trouble is None:
                            yard.do(edit)
                        wanted.append("done" if trouble is None else "no " + trouble[0])
                    else:
                        line = maker.one_of(("undo", "redo", "heights", "aim", "fewest", "cost", "redo"))
                        lines.append(line)
                        wanted.append(asked_of(yard, line))
                        if line in ("undo", "redo"):
                            play = Play(frame)
                            for edit in yard.edits():
                                play.do(edit)
                    seen[wanted[-1].split(" ")[-1]] = True
                text = "\n".join(lines)
                self.assertEqual(self.tell(replies, frame, text), wanted)
                last = last_yard(frame, text)
                self.assertEqual(last, yard)
                self.assertEqual((last.frame(), last.stand(), last.prices(), last.goal()), play.held())
                # What was undone can be put back in the yard that is told, too.
                self.assertEqual(asked_of(last, "redo"), asked_of(yard, "redo"))
                self.assertIsNot(last_yard(frame, text), last_yard(frame, text))
        self.assertLessEqual({"done", "NoJack", "NoBeam", "NothingDone", "Unfit", "NoStand", "CanNot"}, set(seen))

    def test_all_errors(self):
        text = "\n".join([
            "undo", "redo", "move 2 0", "move 0 0", "move 0 5", "plan 0:1 0:1", "plan 0:1 1:1 2:4", "plan 0:1 1:4", "beam 0 2",
            "beam 2 0", "beam 0 1", "beam 1 0", "out 1 0", "out 5 7", "out 0 1", "more 2", "goal 2 -", "goal 2 1", "price 2 1 -",
            "even 2 1", "heights", "goal 0 0", "goal 1 2", "aim", "fewest", "cost", "goal 0 241", "goal 1 241", "aim", "fewest",
            "cost", "goal 0 1", "goal 1 1", "price 0 1 -", "fewest", "cost",
        ])
        self.assertEqual(replies(PAIR, text), [
            "no NothingDone", "no NothingDone", "no NoJack", "no Unfit", "no NoStand", "no Unfit", "no NoJack", "no NoStand",
            "no NoJack", "no NoJack", "no Unfit", "no Unfit", "no NoBeam", "no NoBeam", "no Unfit", "no NoJack", "no NoJack",
            "no NoJack", "no NoJack", "no NoJack", "0 0", "done", "done", "no CanNot", "no CanNot", "no CanNot", "done", "done",
            "241 241", "no TooMany", "no TooMany", "done", "done", "done", "2", "no CanNot",
        ])
        self.assertEqual(replies(NINE_ODD, "fewest\ncost\naim\nout 0 2\nfewest"), [
            "no TooMany", "no TooMany", " ".join("0" * 9), "done", "0"])

    def test_undone_and_done_again(self):
        text = "move 0 1\nmove 1 1\nundo\nundo\nundo\nredo\nheights\nredo\nredo\nheights\nundo\nmove 1 2\nredo\nheights"
        self.assertEqual(replies(PAIR, text), [
            "done", "done", "done", "done", "no NothingDone", "done", "1 0", "done", "no NothingDone", "1 1", "done", "done",
            "no NothingDone", "1 2"])
        self.assertEqual(last_yard(PAIR, text).edits(), [("move", 0, 1), ("move", 1, 2)])

    def test_at_the_bounds(self):
        maker = Maker(103)
        for frame in (WIDE, WIDE_TWO, FLOOR):
            play, lines = Play(frame), []
            while len(lines) < 54:
                edit = some_edit(maker, play, 0)
                if edit[0] != "more" and len(lines) < 50:
                    play.do(edit)
                    lines.append(line_of(edit))
                elif len(lines) >= 50:
                    lines += ["aim", "fewest", "cost", "heights"]
            told = replies(frame, "\n".join(lines))
            self.assertEqual(len(told), 54)
            self.assertEqual(told[-1], " ".join(map(str, play.held()[1])))
        big = "goal 0 1000000\ngoal 1 1000000\neven 0 1000000\nprice 1 500000 0\naim\nfewest\nmove 0 -" + MOST
        self.assertEqual(replies(PAIR, big)[-3:], ["1000000 1000000", "no TooMany", "no NoStand"])
