"""Points 21 to 23: names, lines and their texts."""

from maplost.errors import InvalidLine, InvalidText
from maplost.texts import is_line, is_name, is_round, is_text, line_text, read_line
from tests.helpers import Case, any_values

NAMES = ["a", "z", "ann", "abcdefgh", "zzzzzzzz"]
NO_NAMES = ["", "abcdefghi", "Ann", "anN", "a n", " a", "a ", "a1", "1", "_", "-", "a\n", "\ta", "`", "{"]
TEXTS = ["", " ", "~", "a", "rings at five", "x" * 40, " " * 40, "  two ", "".join(chr(k) for k in range(32, 72))]
NO_TEXTS = ["x" * 41, "\n", "a\n", "\t", "a\tb", "x" * 60000]


class TestNames(Case):
    def test_names(self):
        for name in NAMES:
            self.assertIs(is_name(name), True, name)
        for name in NO_NAMES:
            self.assertIs(is_name(name), False, name)

    def test_every_sign(self):
        for code in range(32, 127):
            self.assertEqual(is_name(chr(code)), "a" <= chr(code) <= "z")
            self.assertEqual(is_name("a" + chr(code)), "a" <= chr(code) <= "z")
            self.assertTrue(is_text(chr(code)))

    def test_any_value(self):
        self.is_bool_for_all(is_name, lambda value: type(value) is str and value in ("a", "ann"))

    def test_by_name(self):
        self.assertEqual([is_name(value="a"), is_text(value=""), is_line(value=("a", "")), is_round(value="round 0")],
                         [True] * 4)


class TestTexts(Case):
    def test_texts(self):
        for text in TEXTS:
            self.assertIs(is_text(text), True, text)
        for text in NO_TEXTS:
            self.assertIs(is_text(text), False)

    def test_any_value(self):
        plain = ("", "a", "ann", "Ann", "ann x", "round 7", "2: 0-1")
        self.is_bool_for_all(is_text, lambda value: type(value) is str and value in plain)


class TestLines(Case):
    def test_lines(self):
        for name in NAMES:
            for text in TEXTS:
                self.assertIs(is_line((name, text)), True)
            for text in NO_TEXTS:
                self.assertIs(is_line((name, text)), False)
        for name in NO_NAMES:
            self.assertIs(is_line((name, "x")), False, name)

    def test_no_lines(self):
        for value in [("ann",), ("ann", "x", "y"), (), ["ann", "x"], "an", ("ann", ["x"]), (("ann",), "x"), ("ann", 1)]:
            self.assertIs(is_line(value), False)
        for value in any_values():
            if value != "a" and value != "ann":
                self.assertIs(is_line((value, "x")), False)

    def test_any_value(self):
        self.is_bool_for_all(is_line, lambda value: value == ("ann", "x"))


class TestLineText(Case):
    def test_there_and_back(self):
        for name in NAMES:
            for text in TEXTS:
                self.assertEqual(line_text((name, text)), name + " " + text)
                self.assertEqual(read_line(name + " " + text), (name, text))
        self.assertEqual(line_text(line=("bo", "")), read_line(text="bo ")[0] + " ")

    def test_no_line(self):
        for value in [*any_values(), ("ann", "x" * 41), ("abcdefghi", ""), ("ann", "\n"), ["ann", "x"]]:
            if value != ("ann", "x"):
                self.raises(InvalidLine, {"given": value}, line_text, value)

    def test_no_text_of_a_line(self):
        wrong = ["", " ", "bo", " bo", " bo x", "Bo x", "abcdefghi x", "a " + "x" * 41, "a x\n", "a\tx", "a\n x", "a-b c"]
        for text in wrong:
            self.raises(InvalidText, {"given": text}, read_line, text)
        for value in any_values():
            if value != "ann x" and value != "round 7":
                self.raises(InvalidText, {"given": value}, read_line, value)


class TestRounds(Case):
    def test_rounds(self):
        for text in ["round 0", "round 7", "round 10", "round 909", "round 123456789", "round 999999999"]:
            self.assertIs(is_round(text), True, text)

    def test_no_rounds(self):
        wrong = ["round", "round ", "round  7", "round 07", "round 00", "round 1234567890", "round 0123456789", "7",
                 "round -1", "round +1", "round 7 ", " round 7", "Round 7", "round7", "round 7x", "round 1_0", "round 7\n",
                 "round x", "round\t7", "around 7", "round 1 2", "round 1.0", "round " + "9" * 5000]
        for text in wrong:
            self.assertIs(is_round(text), False, text[:20])

    def test_any_value(self):
        self.is_bool_for_all(is_round, lambda value: value == "round 7")
