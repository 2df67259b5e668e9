"""Promise [4]: lines and words."""

import itertools
import re

from evenlifts import errors, signs
from evenlifts.signs import lines_of, number_of, word_of, words_of
from making import Case, Maker

EXAMPLES = r'''
>>> lines_of("frame 3\nbeam 0 1"), lines_of(""), lines_of("row\n"), words_of("beam 0 1"), words_of("")
(['frame 3', 'beam 0 1'], [], ['row', ''], ['beam', '0', '1'], [])
>>> number_of("-12"), number_of("0"), number_of("07"), number_of("-0"), number_of("1-"), number_of(""), word_of(-7)
(-12, 0, None, None, None, None, '-7')
>>> words_of("beam  0")
raises CanNot()
'''


def texts_of(signs_used, most):
    for long in range(most + 1):
        for own in itertools.product(signs_used, repeat=long):
            yield "".join(own)


class Signs(Case):

    def test_examples(self):
        self.examples(EXAMPLES, {**vars(signs), **vars(errors)})

    def test_lines_are_parted_by_line_feeds_alone(self):
        for text in texts_of("a \n", 6):
            lines = self.tell(lines_of, text)
            self.assertEqual("\n".join(lines), text)
            self.assertTrue(all("\n" not in line for line in lines))
            self.assertEqual(len(lines), 0 if text == "" else text.count("\n") + 1)

    def test_other_signs_part_no_lines(self):
        for sign in ("\r", "\x0b", "\x0c", "\x1c", "\x85", "\u2028", "\u2029", "\t"):
            self.assertEqual(lines_of("a" + sign + "b"), ["a" + sign + "b"])
            self.assertEqual(lines_of(sign), [sign])
        self.assertEqual(lines_of("a\r\nb"), ["a\r", "b"])
        self.assertEqual(lines_of("\n"), ["", ""])

    def test_words_are_parted_by_single_blanks(self):
        for line in texts_of("ab ", 7):
            if line.startswith(" ") or line.endswith(" ") or "  " in line:
                self.refused(errors.CanNot, words_of, line)
                continue
            words = self.tell(words_of, line)
            self.assertEqual(" ".join(words), line)
            self.assertTrue(all(word != "" and " " not in word for word in words))
            self.assertEqual(len(words), 0 if line == "" else line.count(" ") + 1)

    def test_other_signs_part_no_words(self):
        for sign in ("\t", "\n", "\r", "\u00a0", "\u2003", "\x0c"):
            self.assertEqual(words_of("a" + sign + "b"), ["a" + sign + "b"])
            self.assertEqual(words_of(sign), [sign])
            self.assertEqual(words_of(sign + " " + sign), [sign, sign])
        for line in (" ", "  ", " a", "a ", "a  b", " \t"):
            self.refused(errors.CanNot, words_of, line)

    def test_words_of_long_lines(self):
        maker = Maker(1)
        for _ in range(200):
            words = ["".join(maker.one_of("xyz09-\t") for _ in range(maker.among(1, 9))) for _ in range(30)]
            self.assertEqual(words_of(" ".join(words)), words)

    def test_number_words(self):
        for word in texts_of("-+019 _.a\n", 4):
            wanted = int(word) if re.fullmatch(r"(0|-?[1-9][0-9]*)\Z", word) else None
            told = self.tell(number_of, word)
            self.assertEqual((told, type(told)), (wanted, type(wanted)), word)
            if told is not None:
                self.assertEqual(word_of(told), word)

    def test_figures_of_other_scripts_are_none(self):
        for word in ("\u0663", "1\u0663", "\u00b2", "1\u00b2", "\uff11", "-\uff11", "\u2212" + "1", "1\u2070", "\u0967"):
            self.assertIsNone(number_of(word))
        for word in ("--1", "-", "-01", "00", "000", "-00", "1e3", "0x1", "1_0", "+1", " 1", "1 ", "1\n", "-1-", "1.0"):
            self.assertIsNone(number_of(word), word)

    def test_numbers_there_and_back(self):
        maker = Maker(2)
        numbers = list(range(-1200, 1201)) + [10 ** k + by for k in range(60) for by in (-1, 0, 1)]
        numbers += [maker.below(10 ** maker.among(1, 60)) * (10 ** maker.below(30)) % 10 ** 60 for _ in range(500)]
        for number in numbers:
            for own in (number, -number):
                word = self.tell(word_of, own)
                self.assertEqual(word, repr(own))
                self.assertEqual(number_of(word), own)

    def test_each_number_has_one_word(self):
        seen = {}
        for word in texts_of("-0123", 4):
            number = number_of(word)
            if number is not None:
                self.assertNotIn(number, seen)
                seen[number] = word
        self.assertEqual(number_of("1" * 99), int("1" * 99))
