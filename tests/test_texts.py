"""Promise [25]: texts of frames, heights, plans, prices, and pictures; the line of BadText."""

from evenlifts import errors, texts
from evenlifts.texts import (
    beams_picture, frame_text, heights_text, picture, plan_text, prices_text, read_frame, read_heights, read_picture,
    read_plan, read_prices,
)
from making import APART, Case, FLOOR, HOUSE, KITE, Maker, WIDE, WIDE_TWO, row, small_frames, some_frames, some_prices

EXAMPLES = r'''
>>> frame, prices = (3, ((0, 1), (1, 2))), ((1, ()), (2, ((1, 0), (3, None))), (1, ()))
>>> frame_text(frame), heights_text((0, 1, -1)), plan_text(((1, 2), (0, -1)))
('frame 3\nbeam 0 1\nbeam 1 2', 'heights 0 1 -1', 'plan\nmove 1 2\nmove 0 -1')
>>> prices_text(prices), read_prices(prices_text(prices)) == prices, read_plan("plan")
('prices\njack 1\njack 2 1:0 3:-\njack 1', True, ())
>>> picture(3, (0, 1, 1, -1, 10, 2)), read_picture(" 0  1\n-1 10"), read_frame("frame 2\nbeam 0 1")
(' 0  1  1\n-1 10  2', (2, (0, 1, -1, 10)), (2, ((0, 1),)))
>>> beams_picture(3, (0, 1, 1, -1, 3, 2)), beams_picture(1, (0, 2)), picture(2, (5, 5))
('o-o-o\n| x |\noxo-o', 'o\nx\no', '5 5')
>>> read_frame("frame 3\nbeam 0 1")
raises BadText(line=2)
>>> read_frame("frame 3\nbeam 1 2\nbeam 0 1")
raises BadText(line=2)
>>> read_picture("0 1\n-1 10")
raises BadText(line=0)
>>> read_heights("heights 0 01")
raises BadText(line=0)
'''

READERS = (read_frame, read_heights, read_plan, read_prices, read_picture)
# Words that are no number words, and lines that are none of any text.
NO_NUMBERS = ("01", "-0", "+1", "1.0", "a", "-", "--1", "1-", "0x1", "1_0", "1:", ":", "\t1", "1\r")
NO_LINES = (
    "", " ", "frame", "beam", "move", "jack", "x", "Beam 0 1", "beam  0 1", " beam 0 1", "beam 0 1 ", "beam\t0 1", "beam 0",
    "beam 0 1 2", "move 0", "move 0 1 2", "move 0 a", "jack", "jack a", "jack 0", "jack -1", "jack 1 ", "jack 1 2",
    "jack 1 2:", "jack 1 :2", "jack 1 2:3:4", "jack 1 2: 3", "jack 1 2:-1", "jack 1 02:1", "jack 1 2:01", "jack 1 2:--",
    "jack 1  2:1", "jack 1 2:1 2:3", "jack 1 3:1 2:3", "beam 1 0", "beam 1 1", "beam -1 1", "move -1 4", "jack 1 -:1",
    "jack 1 2:1 ", "jack 1 2:+1", "jack 1:1", "-", "0", "beam 0:1", "move 0:1",
)


class Texts(Case):

    def test_examples(self):
        self.examples(EXAMPLES, {**vars(texts), **vars(errors)})

    def bad(self, reader, text, line):
        for call in (lambda: reader(text), lambda: reader(text=text)):
            with self.assertRaises(errors.BadText) as caught:
                call()
            self.assertIs(type(caught.exception), errors.BadText)
            self.assertEqual(vars(caught.exception), {"line": line}, (reader, text))

    def test_frames_there_and_back(self):
        for frame in list(small_frames()) + some_frames() + [WIDE, WIDE_TWO, FLOOR, HOUSE, APART]:
            told = self.tell(frame_text, frame)
            lines = ["frame " + str(frame[0])] + ["beam {} {}".format(*beam) for beam in frame[1]]
            self.assertEqual(told, "\n".join(lines))
            self.assertEqual(self.tell(read_frame, told), frame)

    def test_heights_plans_and_prices_there_and_back(self):
        maker = Maker(81)
        for frame in some_frames():
            heights = tuple(maker.among(-20, 20) ** maker.among(1, 9) for _ in range(frame[0]))
            told = self.tell(heights_text, heights)
            self.assertEqual(told, "heights " + " ".join(map(str, heights)))
            self.assertEqual(self.tell(read_heights, told), heights)
            plan = tuple((maker.below(30), maker.among(-99, 99)) for _ in range(maker.below(9)))
            told = self.tell(plan_text, plan)
            self.assertEqual(told, "\n".join(["plan"] + ["move {} {}".format(*deed) for deed in plan]))
            self.assertEqual(self.tell(read_plan, told), plan)
            prices = some_prices(maker, frame[0], -3, 5, 3, 2000)
            told = self.tell(prices_text, prices)
            rows = [" ".join(["jack", str(even)] + [
                str(level) + ":" + ("-" if price is None else str(price)) for level, price in stops])
                for even, stops in prices]
            self.assertEqual(told, "\n".join(["prices"] + rows))
            self.assertEqual(self.tell(read_prices, told), prices)

    def test_pictures_there_and_back(self):
        maker = Maker(82)
        for rows in range(1, 5):
            for width in range(1, 5):
                for most in (0, 5, 12, 10 ** 6):
                    heights = tuple(maker.among(-most, most + 3) for _ in range(rows * width))
                    told = self.tell(picture, width, heights)
                    wide = max(len(str(height)) for height in heights)
                    lines = [" ".join(("{:>" + str(wide) + "}").format(height) for height in heights[at:at + width])
                             for at in range(0, rows * width, width)]
                    self.assertEqual(told, "\n".join(lines))
                    if rows * width > 1:
                        self.assertEqual(self.tell(read_picture, told), (width, heights))
                    else:
                        self.bad(read_picture, told, 1)

    def test_pictures_of_beams(self):
        maker = Maker(83)
        for rows in range(1, 5):
            for width in range(1, 5):
                for _ in range(4):
                    heights = tuple(maker.among(-1, 2) for _ in range(rows * width))
                    told = self.tell(beams_picture, width, heights).split("\n")
                    self.assertEqual([len(line) for line in told], [2 * width - 1] * (2 * rows - 1))
                    for down, line in enumerate(told):
                        for across, sign in enumerate(line):
                            at = down // 2 * width + across // 2
                            if down % 2 == across % 2 == 0:
                                self.assertEqual(sign, "o")
                            elif down % 2 == 1 and across % 2 == 1:
                                self.assertEqual(sign, " ")
                            else:
                                far = heights[at + (1 if across % 2 else width)]
                                plain = "-" if across % 2 else "|"
                                self.assertEqual(sign, "x" if abs(heights[at] - far) > 1 else plain)
        self.assertEqual((beams_picture(1, (5,)), beams_picture(2, (0, 1)), beams_picture(2, (0, -2))), ("o", "o-o", "oxo"))

    def test_nothing_at_all(self):
        for reader in READERS:
            self.bad(reader, "", 0)
            self.bad(reader, "\n", 0)
            self.bad(reader, "x", 0)
            self.bad(reader, " ", 0)

    def test_first_lines(self):
        for wrong in ("frame", "frame 1", "frame 0", "frame -3", "frame 2 3", "Frame 2", "frame  2", " frame 2", "frame 2 ",
                      "frame a", "frame 02", "frame +2", "beam 0 1", "plan", "frames 2", "frame2"):
            self.bad(read_frame, wrong, 0)
            self.bad(read_frame, wrong + "\nbeam 0 1", 0)
        for wrong in ("plan 1", "plan ", " plan", "Plan", "move 0 1", "plans", "prices"):
            self.bad(read_plan, wrong, 0)
            self.bad(read_plan, wrong + "\nmove 0 1", 0)
        for wrong in ("prices 1", "prices ", " prices", "Prices", "jack 1", "price", "plan"):
            self.bad(read_prices, wrong, 0)
            self.bad(read_prices, wrong + "\njack 1\njack 1", 0)
        for wrong in ("height 1 2", "Heights 1 2", "heights  1 2", "heights 1 2 ", " heights 1 2", "heights 1  2", "1 2",
                      "heights 1 a", "heights ", "heights 1 2 -0", "heights1 2", "heights 1:2"):
            self.bad(read_heights, wrong, 0)
            self.bad(read_heights, wrong + "\nx", 0)
        for word in NO_NUMBERS:
            self.bad(read_heights, "heights 1 " + word, 0)
            self.bad(read_frame, "frame " + word + "\nbeam 0 1", 0)

    def test_too_few_jacks(self):
        for text in ("heights", "heights 5", "heights -5"):
            self.bad(read_heights, text, 1)
        self.bad(read_prices, "prices", 1)
        self.bad(read_prices, "prices\njack 1", 2)
        self.bad(read_prices, "prices\njack 1 2:3 4:-", 2)
        self.bad(read_frame, "frame 2", 1)
        self.bad(read_frame, "frame 3\nbeam 0 2", 2)
        self.bad(read_frame, "frame 5\nbeam 0 1\nbeam 2 3", 3)
        self.bad(read_frame, "frame " + "9" * 60 + "\nbeam 0 1", 2)
        self.assertEqual(read_heights("heights 5 5"), (5, 5))
        self.assertEqual(read_prices("prices\njack 1\njack 1"), ((1, ()), (1, ())))

    def test_a_line_too_many(self):
        for reader, text in ((read_frame, "frame 3\nbeam 0 1\nbeam 1 2"), (read_plan, "plan\nmove 0 1"), (read_plan, "plan"),
                             (read_prices, "prices\njack 1\njack 2 1:0"), (read_heights, "heights 0 1"),
                             (read_picture, "0 1\n1 1")):
            many = len(text.split("\n"))
            for wrong in NO_LINES:
                # "0" is a line of a picture, but of another width.
                self.bad(reader, text + "\n" + wrong, many)
            self.bad(reader, text + "\n\n", many)

    def test_one_flaw_at_each_line(self):
        maker = Maker(84)
        for frame in some_frames()[:12]:
            prices = some_prices(maker, frame[0], -3, 5, 3)
            plan = tuple((maker.below(9), maker.among(-9, 9)) for _ in range(5))
            for reader, text in ((read_frame, frame_text(frame)), (read_plan, plan_text(plan)), (read_prices, prices_text(prices))):
                lines = text.split("\n")
                for at in range(len(lines)):
                    for wrong in NO_LINES:
                        self.bad(reader, "\n".join(lines[:at] + [wrong] + lines[at + 1:]), at)
                    for wrong in (lines[at] + " ", " " + lines[at], lines[at].upper(), lines[at] + " 1", lines[at] + "\r"):
                        self.bad(reader, "\n".join(lines[:at] + [wrong] + lines[at + 1:]), at)

    def test_lines_beside_those_ahead(self):
        text = "frame 4\nbeam 0 1\nbeam 0 3\nbeam 1 2"
        self.assertEqual(read_frame(text), (4, ((0, 1), (0, 3), (1, 2))))
        for at, wrong in ((2, "beam 0 1"), (3, "beam 0 2"), (3, "beam 0 3"), (1, "beam 0 4"), (2, "beam 3 4"), (3, "beam 4 5"),
                          (1, "beam 2 1"), (2, "beam 1 1"), (3, "beam -1 3")):
            lines = text.split("\n")
            lines[at] = wrong
            self.bad(read_frame, "\n".join(lines), at)
        # Of two flaws the line of the first one.
        self.bad(read_frame, "frame 4\nbeam 0 1\nbeam 0 1\nx", 2)
        self.bad(read_frame, "frame 4\nbeam 0 1\nx\nbeam 0 1", 2)
        for wrong in ("jack 1 1:0 1:0", "jack 1 2:0 1:0", "jack 1 -1:0 -2:0", "jack 1 1:- 1:3"):
            self.bad(read_prices, "prices\njack 1\n" + wrong + "\njack 1", 2)
        self.assertEqual(read_prices("prices\njack 3 -2:- -1:0 5:7\njack 1"), ((3, ((-2, None), (-1, 0), (5, 7))), (1, ())))
        self.assertEqual(read_plan("plan\nmove 0 -5\nmove 99 5\nmove 0 -5"), ((0, -5), (99, 5), (0, -5)))

    def test_flawed_pictures(self):
        for text, line in (
            ("0 a", 0), ("0 1\n1 a", 1), ("0 1\n1", 1), ("0\n0 1", 1), ("0 1\n1 1 1", 1), ("0 1 \n1 1", 0), ("0 1\n1 1 ", 1),
            ("0 1\n", 1), ("0 1\n\n1 1", 1), ("0 1\n  \n1 1", 1), ("0  1", 0), (" 0 1", 0), ("0 1\n 1 1", 1), ("0 1\n10 1", 0),
            ("10 1", 0), ("10  1\n 1 10\n1  10", 2), ("10  1\n 1 11\n 01 10", 2), ("0 1\n-0 1", 1), ("0 01", 0), ("0,1", 0),
            ("5", 1), (" 5", 0), ("5 ", 0), ("a", 0), ("-12", 1), ("1 2\n3 4\n5", 2), ("0\t1", 0), ("0 1\n1\t1", 1),
            # First each line is asked for its numbers, then for its blanks.
            ("0  1\n1 a", 1), ("10 1\n1 1 1", 1), (" 5\nx", 1), ("0  1\n1", 1), ("0 1 \n1 a", 0), ("0 1 \n1", 0), ("5 \nx", 0), ("0 1\n1 1 \n1 1 1", 1),
        ):
            self.bad(read_picture, text, line)
        for text, told in (("0 1", (2, (0, 1))), ("0\n1", (1, (0, 1))), (" 0\n-1", (1, (0, -1))), ("-1  0", (2, (-1, 0))),
                           ("5 5\n5 5", (2, (5, 5, 5, 5)))):
            self.assertEqual(self.tell(read_picture, text), told)
            self.assertEqual(picture(*told), text)
        maker = Maker(85)
        for _ in range(40):
            width = maker.among(1, 4)
            heights = tuple(maker.among(-3, 12) for _ in range(width * maker.among(2, 4)))
            lines = picture(width, heights).split("\n")
            at = maker.below(len(lines))
            for wrong in (" " + lines[at], lines[at].replace(" ", "  ") if " " in lines[at].strip() else "  " + lines[at]):
                self.bad(read_picture, "\n".join(lines[:at] + [wrong] + lines[at + 1:]), at)
            for wrong in (lines[at] + " ", lines[at] + " x", ""):
                self.bad(read_picture, "\n".join(lines[:at] + [wrong] + lines[at + 1:]), at)
            # With a word more in the first line it is the next one that has not as many.
            self.bad(read_picture, "\n".join(lines[:at] + [lines[at] + " 1"] + lines[at + 1:]), max(at, 1))

    def test_what_is_read_is_its_text(self):
        """Each text of some few signs that is read at all is the text of what was read."""
        signs = ("0", "1", "-", " ", "\n", ":", "frame", "beam", "heights", "plan", "move", "prices", "jack", "0 1", "2")
        tellers = (frame_text, heights_text, plan_text, prices_text)
        maker, read = Maker(86), 0
        for _ in range(12000):
            text = "".join(maker.one_of(signs) for _ in range(maker.among(1, 7)))
            for reader, teller in zip(READERS, tellers + (None,)):
                try:
                    thing = reader(text)
                except errors.BadText as wrong:
                    self.assertTrue(0 <= wrong.line <= len(text.split("\n")))
                    continue
                read += 1
                self.assertEqual(teller(thing) if teller else picture(*thing), text)
        self.assertGreater(read, 20)

    def test_at_the_bounds(self):
        big = 10 ** 6
        plan = tuple((jack % 12, big - jack) for jack in range(59))
        self.assertEqual(read_plan(plan_text(plan)), plan)
        self.assertEqual(len(plan_text(plan).split("\n")), 60)
        prices = tuple((big, tuple((level, None if level % 3 else big) for level in range(-10, 10))) for _ in range(12))
        self.assertEqual(read_prices(prices_text(prices)), prices)
        heights = (-big, big) * 6
        self.assertEqual(read_heights(heights_text(heights)), heights)
        self.assertEqual(read_picture(picture(3, heights)), (3, heights))
        self.assertEqual(read_frame(frame_text(row(12))), row(12))
        self.bad(read_frame, "x" * 100 + ("\n" + "y" * 100) * 59, 0)
        long = ("7" * 45 + " " + "8" * 45 + "\n") * 59
        self.assertEqual(read_picture(long[:-1])[0], 2)
        self.assertEqual(frame_text(KITE), "frame 4\nbeam 0 1\nbeam 0 2\nbeam 1 2\nbeam 2 3")
