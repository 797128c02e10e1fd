"""Point 212: logs in files that can be torn."""

from maplost.errors import InvalidLines, InvalidText, LostError
from maplost.files import file_of, read_file
from maplost.founds import is_founds
from maplost.texts import line_text, read_line
from tests.helpers import Case, any_values, lists_in, random_network, seeded

SIGNS = "".join(chr(k) for k in range(32, 127))
A, B = ("ann", "say"), ("bo", "")


def random_lines(dice):
    """Lines at random, some of them twice, with texts of all signs."""
    lines = []
    for _ in range(dice.randrange(8)):
        text = dice.choice(["", " ", ".", "0003bo .", ".0003bo ", "0007ann say.", "".join(dice.choice(SIGNS) for _ in range(dice.randrange(41))), "x" * 40])
        lines.append((dice.choice(["a", "ann", "abcdefgh"]), text))
    if lines and dice.random() < 0.4:
        lines.append(dice.choice(lines))
    return lines


def slow_read(signs):
    """The lines of the frames as the words of point 212 tell them."""
    if len(signs) < 4 or any(sign not in "0123456789" for sign in signs[:4]):
        return []
    many = int(signs[:4])
    text, end, rest = signs[4:4 + many], signs[4 + many:5 + many], signs[5 + many:]
    try:
        line = read_line(text)
    except LostError:
        return []
    if len(text) != many or end != ".":
        return []
    return [line, *slow_read(rest)]


class TestFileOf(Case):
    def test_frames(self):
        self.assertEqual([file_of([]), file_of(()), file_of([B]), file_of(lines=(A, A))], ["", "", "0003bo .", "0007ann say." * 2])
        self.assertEqual(file_of([("abcdefgh", "x" * 40)]), "0049abcdefgh " + "x" * 40 + ".")
        self.assertEqual(file_of([("a", ".")]), "0003a ..")
        dice = seeded(281)
        for _ in range(200):
            lines = random_lines(dice)
            signs = file_of(lines)
            self.assertEqual(signs, "".join(f"{len(line_text(line)):04d}" + line_text(line) + "." for line in lines))
            self.assertEqual([file_of(tuple(lines)), read_file(signs)], [signs, lines])

    def test_invalid_lines(self):
        wrong = [[list(A)], [["ann", "say"]], [None], [A, None], A, "ann say", [("ann",)], [("ann", "x", "")], [("Ann", "x")], [("", "x")], [("abcdefghi", "x")],
                 [("ann", "x" * 41)], [("ann", "\n")], [("ann", 1)], [(1, "x")], [True], {"ann": "x"}, {}, None, [A, [B]], [[]]]
        for value in wrong + [value for value in any_values() if value not in ([], ())]:
            self.raises(InvalidLines, {"given": value}, file_of, value)


class TestReadFile(Case):
    def test_there_and_back(self):
        self.assertEqual([read_file(""), read_file(signs="0003bo ."), read_file("0003bo .0003bo .")], [[], [B], [B, B]])
        lines = [("abcdefgh", "x" * 40)] * 3000
        self.assertEqual(read_file(file_of(lines)), lines)
        told = read_file("0003bo .")
        self.assertEqual(len(lists_in(told)), 1)
        told.append(1)
        self.assertEqual(read_file("0003bo ."), [B])

    def test_torn_at_every_sign(self):
        dice = seeded(282)
        for _ in range(100):
            lines = random_lines(dice)
            signs = file_of(lines)
            ends = [0]
            for line in lines:
                ends.append(ends[-1] + len(line_text(line)) + 5)
            for n in range(len(signs) + 3):
                whole = sum(end <= n for end in ends) - 1
                self.assertEqual(read_file(signs[:n]), lines[:whole])

    def test_torn_logs_are_logs_that_are_cut_off(self):
        dice = seeded(283)
        network = random_network(dice, 6, 20, 0)
        for house in range(6):
            signs = file_of(network.log(house))
            for n in range(0, len(signs) + 1, 3):
                told = read_file(signs[:n])
                self.assertEqual(tuple(told), network.log(house)[:len(told)])
                self.assertIs(is_founds([(network.names[house], told)]), True)

    def test_signs_changed_put_in_or_left_out(self):
        dice = seeded(284)
        seen = {"all": 0, "some": 0}
        for _ in range(150):
            lines = random_lines(dice)
            signs = file_of(lines)
            for k in range(len(signs) + 1):
                sign = dice.choice(SIGNS + "0123456789....  \n\t")
                for value in [signs[:k] + sign + signs[k:], signs[:k] + signs[k + 1:], signs[:k] + sign + signs[k + 1:], signs[k:]]:
                    told = read_file(value)
                    self.assertEqual(told, slow_read(value))
                    seen["all" if told == lines else "some"] += 1
        self.assertGreater(min(seen.values()), 200, seen)

    def test_where_no_frame_begins(self):
        good = "0007ann say."
        wrong = [
            # Figures that are no figures, too few of them, too many, and a number that is too great or too small.
            "007ann say.", "00007ann say.", " 007ann say.", "+007ann say.", "-007ann say.", "0x07ann say.", "0_07ann say.", "7   ann say.", "0007", "000", "0", "",
            "0008ann say.", "0006ann say.", "9999ann say.", "0000ann say.", "\u0660\u0660\u0660\u0667ann say.", "\u00b2007ann say.", "0o07ann say.", "1e01ann say.",
            # No full stop behind it, or none at all.
            "0007ann say", "0007ann say,", "0007ann say0003bo .", "0007ann say 0003bo .",
            # The string is no line: no space, no name, no text.
            "0003ann.", "0007Ann say.", "0004 say.", "0000.", "0001 .", "0011abcdefghi x.", "0045ann " + "x" * 41 + ".", "0005ann \n.", "0005ann \t.", "0005ann \u00e4.",
            ".", "..", "....", "\n" + good, " " + good, "." + good,
        ]
        for bad in wrong:
            self.assertEqual(read_file(bad), [], bad)
            self.assertEqual(read_file(good + bad), [A], bad)
            self.assertEqual(read_file(good + bad + good * 2)[:1], [A], bad)
        self.assertEqual(read_file(good + "x" + good), [A])
        self.assertEqual(read_file("0003a .." + good), [("a", "."), A])
        self.assertEqual(read_file("0005bo  .." + good), [("bo", " ."), A])

    def test_two_files_in_one(self):
        dice = seeded(285)
        for _ in range(60):
            first, second = random_lines(dice), random_lines(dice)
            signs = file_of(first)
            self.assertEqual(read_file(signs + file_of(second)), first + second)
            # Torn in between: what stands behind counts for nothing, or is read as the frames that stand there by chance.
            n = dice.randrange(len(signs) + 1)
            told = read_file(signs[:n] + file_of(second))
            self.assertEqual(told, slow_read(signs[:n] + file_of(second)))

    def test_long_strings(self):
        for signs in ["0" * 60000, "9" * 60000, "." * 60000, "0003" * 15000, "x" * 60000]:
            self.assertEqual(read_file(signs), [])
        self.assertEqual(len(read_file("0002a ." * 8500)), 8500)

    def test_invalid_text(self):
        for value in any_values():
            if type(value) is str:
                self.assertEqual(read_file(value), [])
            else:
                self.raises(InvalidText, {"given": value}, read_file, value)
