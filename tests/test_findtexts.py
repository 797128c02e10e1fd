"""Point 211: founds and maps as texts."""

from maplost.cuts import is_map
from maplost.errors import InvalidFounds, InvalidMap, InvalidReaders, InvalidText, LostError
from maplost.findtexts import founds_text, map_text, read_founds, read_map
from maplost.founds import is_founds
from maplost.truth import true_map
from tests.helpers import (
    Case, any_values, frozen, house_names, lists_in, path, random_found, random_network, random_tree, seeded,
)
from tests.test_cuts import random_map

SIGNS = "".join(chr(k) for k in range(32, 127))
TEXTS = ["", " ", "  ", "one", "x y", "reader", "reader ann", "- ann one", "-", "- ", "|", "1 | 1 |", "a>b", "~", SIGNS[:40], SIGNS[40:80], "x" * 40]
ANY_FOUNDS = ([("ann", [])], [(None, [])], ((None, ()),), [(None, [("ann", "x")])])
DRAWN = [((1,), 1, ()), ((1, 2), 2, (("ann", "bo"), ("bo", "cy")))]
STRINGS = [value for value in any_values() if type(value) is str]


def plain_founds_text(founds):
    text = ""
    for own, lines in founds:
        text += ("reader" if own is None else "reader " + own) + "\n"
        for name, words in lines:
            text += "- " + name + " " + words + "\n"
    return text


def plain_map_text(drawn):
    text = ""
    for lot, roads, arrows in drawn:
        text += " ".join(map(str, lot)) + " | " + str(roads) + " |" + "".join(" " + a + ">" + b for a, b in arrows) + "\n"
    return text


def random_texts(dice):
    """Founds at random with texts of all signs."""
    names = ["a", "ann", "abcdefgh", "reader", "bo"]
    founds = []
    for own in dice.sample([None, None, None, *names], dice.randrange(1, 6)):
        lines = {(dice.choice(names), dice.choice([*TEXTS, "".join(dice.choice(SIGNS) for _ in range(dice.randrange(41)))])): True
                 for _ in range(dice.randrange(6))}
        founds.append((own, list(lines) if dice.random() < 0.6 else tuple(lines)))
    return founds


def with_lists(founds):
    return [(own, list(lines)) for own, lines in founds]


def changed(dice, text):
    """A text in which a sign or a row is changed, put in or left out."""
    k = dice.randrange(len(text) + 1)
    sign = dice.choice("\n\t -|>019abA" + text)
    rows = text.split("\n")[:-1]
    row = dice.randrange(len(rows)) if rows else 0
    return dice.choice([
        text[:k] + sign + text[k:], text[:k] + text[k + 1:], text[:k] + sign + text[k + 1:], text[:k], text[k:], text + text,
        "".join(other + "\n" for other in rows[:row] + rows[row + 1:]), "".join(other + "\n" for other in rows[::-1]),
        "".join(other + "\n" for other in rows[:row] + rows[row:row + 1] * 2 + rows[row + 1:]), text.replace("\n", "\n\n", 1), text.replace(" ", "  ", 1),
    ])


class TestFoundsText(Case):
    def test_there_and_back(self):
        dice = seeded(271)
        for _ in range(300):
            founds = random_texts(dice)
            before = frozen(founds)
            text = founds_text(founds=founds)
            self.assertEqual(text, plain_founds_text(founds))
            told = read_founds(text=text)
            self.assertEqual(told, with_lists(founds))
            self.assertEqual(founds_text(told), text)
            self.assertEqual(len({id(row) for row in lists_in(told)}), 1 + len(founds))
            self.assertEqual([type(told), {type(item) for item in told}], [list, {tuple}])
            told[0][1].append(1)
            self.assertEqual(read_founds(text), with_lists(founds))
            self.assertEqual(frozen(founds), before)

    def test_edges(self):
        for founds, text in [([(None, [])], "reader\n"), ([("a", [])], "reader a\n"), ([(None, [("a", "")])], "reader\n- a \n"),
                             ([(None, [("a", " ")])], "reader\n- a  \n"), ([("reader", [("reader", "reader")])], "reader reader\n- reader reader\n"),
                             ([(None, [])] * 12, "reader\n" * 12), ([(None, [("ann", "- bo x")])], "reader\n- ann - bo x\n")]:
            self.assertEqual([founds_text(founds), read_founds(text)], [text, founds])
        network = random_network(seeded(272), 12, 40, 0)
        founds = [random_found(seeded(273), network, house) for house in range(12)]
        self.assertEqual(read_founds(founds_text(founds)), founds)
        lines = [("abcdefgh", f"{k:040d}") for k in range(40)]
        founds = [(None, lines[k:] + lines[:k]) for k in range(12)]
        self.assertEqual(read_founds(founds_text(founds)), founds)

    def test_just_these_strings(self):
        dice = seeded(274)
        seen = {True: 0, False: 0}
        for _ in range(3000):
            text = changed(dice, founds_text(random_texts(dice)))
            try:
                told = read_founds(text)
            except LostError as error:
                seen[False] += 1
                self.raises(InvalidText, {"given": text}, read_founds, text)
                self.assertIs(error.given, text)
                self.assertIs(could_be_founds(text), False, text)
            else:
                seen[True] += 1
                self.assertIs(is_founds(told), True)
                self.assertEqual(plain_founds_text(told), text)
        self.assertGreater(min(seen.values()), 300, seen)

    def test_wrong_texts(self):
        wrong = [
            "", "\n", "reader", "reader ann", "reader \n", "reader  ann\n", " reader\n", "reader ann \n", "reader Ann\n", "reader abcdefghi\n", "Reader\n",
            "readers\n", "reader ann bo\n", "reader\n\n", "\nreader\n", "reader\n- bo\n", "reader\n-bo x\n", "reader\n-  bo x\n", "reader\n - bo x\n",
            "reader\n- Bo x\n", "reader\n- bo x", "reader\n-\n", "reader\n- \n", "- bo x\n", "- bo x\nreader\n", "reader\n- bo x\n- bo x\n",
            "reader ann\nreader ann\n", "reader\n" * 13, "reader\n+ bo x\n", "reader\nbo x\n", "reader\n- bo\tx\n", "reader\tann\n", "reader\n- bo " + "x" * 41 + "\n",
            "reader\r\n", "reader\n- bo x\r\n", "reader\n- bo \u00e4\n", "reader\n\x0b\n", "reader\n- bo x\n \n", "reader None\n", "reader 1\n", "x" * 60000, "\n" * 60000,
            "reader\n- abcdefghi x\n", "reader\nreader\n-\n", "- a b\n" * 3000,
        ]
        for text in wrong + STRINGS:
            self.raises(InvalidText, {"given": text}, read_founds, text)
        for value in any_values():
            self.raises(InvalidText, {"given": value}, read_founds, value)

    def test_invalid_founds(self):
        for value in [[("ann", [("a", ""), ("a", "")])], [], [("ann", []), ("ann", [])], *any_values()]:
            if value not in ANY_FOUNDS:
                self.raises(InvalidFounds, {"given": value}, founds_text, value)


def could_be_founds(text):
    """Whether the rows of a text are those of founds, judged row by row."""
    if not text.endswith("\n"):
        return False
    founds = []
    for row in text[:-1].split("\n"):
        words = row.split(" ")
        if row == "reader":
            founds.append((None, []))
        elif words[0] == "reader" and len(words) == 2:
            founds.append((words[1], []))
        elif words[0] == "-" and len(words) > 2 and founds:
            founds[-1][1].append((words[1], " ".join(words[2:])))
        else:
            return False
    return is_founds(founds)


class TestMapText(Case):
    def test_there_and_back(self):
        dice = seeded(275)
        for _ in range(300):
            drawn, readers = random_map(dice)
            if dice.random() < 0.3:
                drawn = [(lot, roads + dice.randrange(30), tuple(arrow for arrow in arrows if dice.random() < 0.6)) for lot, roads, arrows in drawn]
            before = frozen(drawn)
            text = map_text(readers=readers, drawn=drawn)
            self.assertEqual([text, map_text(tuple(drawn), 12)], [plain_map_text(drawn)] * 2)
            told = read_map(readers=readers, text=text)
            self.assertEqual([told, type(told), len(lists_in(told))], [drawn, list, 1])
            self.assertEqual(read_map(text, 12), drawn)
            told.append(1)
            self.assertEqual(read_map(text, readers), drawn)
            self.assertEqual(frozen(drawn), before)

    def test_edges(self):
        self.assertEqual([map_text([], 1), map_text((), 12), read_map("", 1), read_map("", 12)], ["", "", [], []])
        self.assertEqual(map_text(DRAWN, 3), "1 | 1 |\n1 2 | 2 | ann>bo bo>cy\n")
        for drawn, readers in [([((11,), 10 ** 19, ())], 12), ([((1, 10, 11), 10, (("a", "abcdefgh"),)), ((10,), 1, ())], 12), ([((1,), 12345678901234567890, ())], 2)]:
            self.assertEqual(read_map(plain_map_text(drawn), readers), drawn)
            self.assertEqual(map_text(drawn, readers), plain_map_text(drawn))
        names = house_names(64)
        drawn = true_map(path(64), names, [0, 63])
        self.assertEqual(read_map(map_text(drawn, 2), 2), drawn)

    def test_just_these_strings(self):
        dice = seeded(276)
        seen = {True: 0, False: 0}
        for _ in range(4000):
            tree = random_tree(dice, dice.randrange(2, 5))
            readers = dice.randrange(2, len(tree) + 1)
            drawn = true_map(tree, house_names(len(tree)), dice.sample(range(len(tree)), readers))
            drawn = [(lot, roads, arrows[:dice.randrange(3)]) for lot, roads, arrows in drawn]
            text = changed(dice, map_text(drawn, readers))
            many = dice.choice([readers, readers, 1, 12])
            try:
                told = read_map(text, many)
            except LostError as error:
                seen[False] += 1
                self.raises(InvalidText, {"given": text}, read_map, text, many)
                self.assertIs(error.given, text)
                self.assertIs(could_be_map(text, many), False, text)
            else:
                seen[True] += 1
                self.assertIs(is_map(told, many), True)
                self.assertEqual(plain_map_text(told), text)
        self.assertGreater(min(seen.values()), 300, seen)

    def test_wrong_texts(self):
        wrong = [
            "\n", " ", "1 | 1 |", "1 | 1 | \n", "1 | 1\n", "1 | 1 |\n\n", "\n1 | 1 |\n", " 1 | 1 |\n", "1  | 1 |\n", "1 |  1 |\n", "1 | 1  |\n", "1 | 1 |  a>b\n",
            "01 | 1 |\n", "1 | 01 |\n", "1 | 0 |\n", "1 | -1 |\n", "1 | +1 |\n", "1 | 1.0 |\n", "0 | 1 |\n", "0 1 | 1 |\n", "3 | 1 |\n", "2 1 | 1 |\n", "1 1 | 1 |\n",
            "1, 2 | 1 |\n", " | 1 |\n", "| 1 |\n", "1 || 1 |\n", "1 | 1 ||\n", "1 | 1 | |\n", "1 | 1 | a\n", "1 | 1 | a>\n", "1 | 1 | >b\n", "1 | 1 | >\n", "1 | 1 | a>b>c\n",
            "1 | 1 | a>a\n", "1 | 9 | a>b b>a\n", "1 | 1 | a>b b>c\n", "1 | 1 | b>c a>c\n", "1 | 1 | a>b a>b\n", "1 | 1 | a>b  a>c\n", "1 | 1 | a>b \n", "1 | 1 | A>b\n",
            "1 | 1 | a>abcdefghi\n", "1 | 1 | a <b\n", "1|1|\n", "1 | 1 |\n1 | 1 |\n", "2 | 1 |\n1 | 1 |\n", "1 2 | 1 |\n1 | 1 |\n", "1 | 1 |\r\n", "1\t| 1 |\n", "one | 1 |\n",
            "1 | one |\n", "1 | |\n", "1 | | a>b\n", "\u0661 | 1 |\n", "1 | \u0661 |\n", "1 | 1 |\n" * 7500, "x" * 60000, " " * 60000, "|" * 60000, "1 | 1 |" + " a>b" * 14000 + "\n",
            "1 | " + "9" * 5000 + " |\n", "9" * 5000 + " | 1 |\n", "1 " * 3000 + "| 1 |\n",
        ]
        for text in wrong + [text for text in STRINGS if text != ""]:
            self.raises(InvalidText, {"given": text}, read_map, text, 3)
        crossing = "1 2 | 1 |\n2 3 | 1 |\n"
        self.raises(InvalidText, {"given": crossing}, read_map, crossing, 4)
        # A map of another number of readers.
        self.assertEqual(read_map("2 | 1 |\n", 3), [((2,), 1, ())])
        for readers in (1, 2):
            self.raises(InvalidText, {"given": "2 | 1 |\n"}, read_map, "2 | 1 |\n", readers)
        self.raises(InvalidText, {"given": "12 | 1 |\n"}, read_map, "12 | 1 |\n", 12)
        for value in any_values():
            if value != "" or type(value) is not str:
                self.raises(InvalidText, {"given": value}, read_map, value, 12)

    def test_errors(self):
        for value in any_values():
            if type(value) is not int or not 1 <= value <= 12:
                self.raises(InvalidReaders, {"given": value}, map_text, None, value)
                self.raises(InvalidReaders, {"given": value}, read_map, None, value)
                self.raises(InvalidReaders, {"given": value}, map_text, [], value)
                self.raises(InvalidReaders, {"given": value}, read_map, "", value)
            if value not in ([], ()):
                self.raises(InvalidMap, {"given": value}, map_text, value, 3)
        for value in [0, 13, -1, True, False, "1", None]:
            self.raises(InvalidReaders, {"given": value}, map_text, DRAWN, value)
            self.raises(InvalidReaders, {"given": value}, read_map, "x", value)
        for drawn, readers in [(DRAWN, 2), (DRAWN[::-1], 3), ([((1,), 0, ())], 2), ([((True,), 1, ())], 2), ([((1,), True, ())], 2), ([[(1,), 1, ()]], 2),
                               ([([1], 1, ())], 2), ([((1,), 1, [])], 2), ([((1,), 1, (("a", "b"), ("b", "c")))], 2)]:
            self.raises(InvalidMap, {"given": drawn}, map_text, drawn, readers)


def could_be_map(text, readers):
    """Whether the rows of a text are those of a map, judged row by row."""
    if text == "":
        return True
    if not text.endswith("\n"):
        return False
    drawn = []
    for row in text[:-1].split("\n"):
        words = row.split(" ")
        if words.count("|") != 2 or words[-1] == "":
            return False
        bar = words.index("|")
        numbers, arrows = words[:bar] + words[bar + 1:bar + 2], words[bar + 3:]
        if bar + 2 >= len(words) or words[bar + 2] != "|":
            return False
        if any(not word.isascii() or not word.isdigit() or word != str(int(word)) for word in numbers) or any(word.count(">") != 1 for word in arrows):
            return False
        drawn.append((tuple(int(word) for word in numbers[:-1]), int(numbers[-1]), tuple(tuple(word.split(">")) for word in arrows)))
    return is_map(drawn, readers)
