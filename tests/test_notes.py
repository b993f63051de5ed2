"""Point 10: written and read_chain, and the places of what can't be read."""

import re
import unittest

from drawchain.chains import makers
from drawchain.errors import BadChain, BadText
from drawchain.notes import read_chain, written
from helper import COUNT, Maze, chain, row

MOST = 10 ** 30 - 1
NUMBER = ("a number",)

# What may come for each kind of thing, by the word that comes first of it.
RULES = {
    "chain": {"count": (NUMBER, NUMBER, "stages"), "row": ("numbers", "stages")},
    "numbers": {NUMBER: ("numbers",), ";": ()},
    "stages": {
        ".": (), "keep": (NUMBER, NUMBER, "stages"), "unlike": ("stages",),
        "both": ("chain", "stages"), "then": ("chain", "stages"),
    },
    NUMBER: {NUMBER: ()},
}
for one_number in ("add", "times", "drop", "take", "each", "until"):
    RULES["stages"][one_number] = (NUMBER, "stages")


def model_place(text):
    """The place that the text is refused with, or None: told by what may come next."""
    words = text.split(" ")
    due = ["chain"]
    for place, word in enumerate(words):
        if re.fullmatch("0|-?[1-9][0-9]{0,29}", word):
            word = NUMBER
        if not due or word not in RULES[due[-1]]:
            return place
        due.extend(reversed(RULES[due.pop()][word]))
    return len(words) if due else None


class Written(unittest.TestCase):
    def check(self, one, text):
        self.assertEqual(written(one), text)
        self.assertEqual(read_chain(text), one)

    def test_the_text_of_the_document(self):
        self.check(
            chain(("count", 0, 2), ("keep", 1, 3), ("both", chain(row(5, 6)))),
            "count 0 2 keep 1 3 both row 5 6 ; . .")

    def test_makers(self):
        self.check(chain(COUNT), "count 0 1 .")
        self.check(chain(("count", -12, -1)), "count -12 -1 .")
        self.check(chain(row()), "row ; .")
        self.check(chain(row(0)), "row 0 ; .")
        self.check(chain(row(3, -1, 10)), "row 3 -1 10 ; .")

    def test_each_stage(self):
        for stage, text in (
            (("add", -4), "add -4"), (("times", 0), "times 0"), (("keep", 0, 1000), "keep 0 1000"),
            (("drop", 100), "drop 100"), (("take", 0), "take 0"), (("each", 10), "each 10"),
            (("until", 7), "until 7"), (("unlike",), "unlike"),
            (("both", chain(row(), ("unlike",))), "both row ; unlike ."),
            (("then", chain(COUNT)), "then count 0 1 ."),
        ):
            self.check(chain(row(1), stage), f"row 1 ; {text} .")
            self.check(chain(COUNT, stage, stage), f"count 0 1 {text} {text} .")
            self.check(chain(COUNT, ("then", chain(COUNT, stage))), f"count 0 1 then count 0 1 {text} . .")

    def test_chains_within_chains(self):
        inner = chain(row(1), ("add", 2), ("both", chain(row(3), ("unlike",))), ("add", 4))
        self.check(
            chain(row(), ("then", inner), ("drop", 5), ("both", chain(row(6)))),
            "row ; then row 1 ; add 2 both row 3 ; unlike . add 4 . drop 5 both row 6 ; . .")
        self.check(
            chain(COUNT, ("then", chain(COUNT, ("both", chain(COUNT, ("then", chain(COUNT))))))),
            "count 0 1 then count 0 1 both count 0 1 then count 0 1 . . . .")

    def test_numbers_of_thirty_figures(self):
        self.check(
            chain(("count", MOST, -MOST), ("add", -MOST)), f"count {MOST} -{MOST} add -{MOST} .")

    def test_a_full_chain(self):
        self.check(chain(row(*range(100)), *[("add", 1)] * 12),
                   "row " + "".join(f"{k} " for k in range(100)) + "; " + "add 1 " * 12 + ".")

    def test_the_kinds(self):
        self.assertIsInstance(written(chain(COUNT)), str)
        told = read_chain("row 1 ; both count 0 1 . .")
        parts = [told, told[0], told[0][1], told[1], told[1][0], told[1][0][1], told[1][0][1][1]]
        self.assertEqual({part.__class__ for part in parts}, {tuple})


class Refused(unittest.TestCase):
    def refuse(self, text, place):
        with self.subTest(text=text[:100]):
            with self.assertRaises(BadText) as caught:
                read_chain(text)
            self.assertEqual(caught.exception.place, place)

    def test_empty_texts_and_blanks(self):
        self.refuse("", 0)
        self.refuse(" ", 0)
        self.refuse("   ", 0)
        self.refuse(" count 0 1 .", 0)
        self.refuse("count  0 1 .", 1)
        self.refuse("count 0  1 .", 2)
        self.refuse("count 0 1  .", 3)
        self.refuse("count 0 1 . ", 4)
        self.refuse("count 0 1 .  ", 4)
        self.refuse("row  ; .", 1)
        self.refuse("row 1  ; .", 2)
        self.refuse("row 1 ;  .", 3)

    def test_more_must_come(self):
        text = "count 0 2 keep 1 3 both row 5 6 ; . ."
        words = text.split(" ")
        for many in range(1, len(words)):
            self.refuse(" ".join(words[:many]), many)
            # A blank too many is the word that can't stand there.
            self.refuse(" ".join(words[:many]) + " ", many)

    def test_more_than_a_chain(self):
        self.refuse("count 0 1 . .", 4)
        self.refuse("count 0 1 . add 1", 4)
        self.refuse("count 0 1 . count 0 1 .", 4)
        self.refuse("row ; . ;", 3)
        self.refuse("row ; both row ; . . .", 7)

    def test_words_that_cannot_begin_a_chain(self):
        for word in ("", "0", ";", ".", "add", "both", "Count", "counts", "ro", "row;", "-", "x"):
            self.refuse(f"{word} 0 1 .", 0)
            self.refuse(f"count 0 1 then {word} 0 1 . .", 4)

    def test_words_that_cannot_be_stages(self):
        for word in ("", "0", "-1", ";", "count", "row", "Add", "adds", "ad", "unlike.", "..", "keep1"):
            self.refuse(f"count 0 1 {word} 1 .", 3)
            self.refuse(f"row ; unlike {word} 1 .", 3)
            self.refuse(f"row ; both row ; {word} 1 . .", 5)

    def test_words_that_are_no_numbers(self):
        for word in (
            "", "-", "--1", "-0", "+1", "+0", "00", "01", "-01", "0.", "1.", "1;", "1e3", "1_0", "0x1",
            "1-", "1-1", "a", "one", "add", ".", "(1)", "1,", "/", ":", "1/", "1:", "-:", "~", "'1'",
            "9" * 31, "-" + "9" * 31, "1" + "0" * 30, "0" * 30, "0" * 31, "-" + "0" * 29, "1" * 5000,
        ):
            self.refuse(f"count {word} 1 .", 1)
            self.refuse(f"count 0 {word} .", 2)
            self.refuse(f"row {word} ; .", 1)
            self.refuse(f"row 1 {word} 2 ; .", 2)
            self.refuse(f"row ; add {word} .", 3)
            self.refuse(f"row ; keep {word} 3 .", 3)
            self.refuse(f"row ; keep 1 {word} .", 4)
            self.refuse(f"row ; each 2 then row ; take {word} . .", 8)

    def test_too_many_and_too_few_numbers(self):
        self.refuse("count 0 .", 2)
        self.refuse("count 0 1 2 .", 3)
        self.refuse("count 0 ; .", 2)
        self.refuse("row 1 .", 2)
        self.refuse("row . ;", 1)
        for word in ("add", "times", "until", "drop", "take", "each"):
            self.refuse(f"row ; {word} .", 3)
            self.refuse(f"row ; {word} 1 1 .", 4)
        self.refuse("row ; keep 1 .", 4)
        self.refuse("row ; keep 1 2 3 .", 5)
        self.refuse("row ; unlike 1 .", 3)
        self.refuse("row ; both .", 3)
        self.refuse("row ; both 1 .", 3)

    def test_what_is_read_whole_but_is_no_chain(self):
        for text in (
            "row " + "1 " * 101 + "; .", "row ; " + "add 1 " * 13 + ".",
            "row ; keep 0 1 .", "row ; keep 0 1001 .", "row ; keep 3 3 .", "row ; keep -1 3 .",
            "row ; keep 1 -3 .", "row ; drop -1 .", "row ; drop 101 .", "row ; take -1 .",
            "row ; take 101 .", "row ; each 0 .", "row ; each 11 .", "row ; each -1 .",
            "row ; " + "both row ; . " * 4 + ".", "row ; " + "then row ; " * 4 + ". " * 4 + ".",
            "row ; add 1 both row ; " + "add 1 " * 11 + ". .", "row ; then row ; each 0 . .",
        ):
            with self.subTest(text=text[:100]):
                self.assertRaises(BadChain, read_chain, text)

    def test_chains_at_their_bounds(self):
        for text in (
            "row " + "1 " * 100 + "; .", "row ; " + "add 1 " * 12 + ".", "row ; keep 999 1000 .",
            "row ; " + "both row ; . " * 3 + ".", "row ; " + "then row ; " * 3 + ". " * 3 + ".",
            "row ; add 1 both row ; " + "add 1 " * 10 + ". .", "row ; drop 100 take 100 each 10 .",
        ):
            self.assertEqual(written(read_chain(text)), text)

    def test_what_cannot_be_read_goes_ahead_of_a_bound_passed(self):
        self.refuse("row " + "1 " * 101 + "; . .", 104)
        self.refuse("row ; each 0 add .", 5)
        self.refuse("row ; " + "add 1 " * 13, 28)
        self.refuse("row ; " + "both row ; " * 5 + "x", 17)

    def test_texts_nested_deeply(self):
        many = 20000
        deep = "count 0 1 " + "both row ; " * many
        self.refuse(deep + "add", 3 + 3 * many + 1)
        self.refuse(deep + ". " * many, 3 + 4 * many)
        self.assertRaises(BadChain, read_chain, deep + ". " * many + ".")

    def test_written_of_what_is_no_chain(self):
        for bad in (chain(COUNT, ("each", 0)), chain(COUNT, ("both", chain(row(MOST + 1)))), (COUNT,)):
            self.assertRaises(BadChain, written, bad)


class ManyTexts(unittest.TestCase):
    ODD = ("", "0", "-0", "+1", "01", "1", "-7", "2", "101", "1001", "9" * 30, "9" * 31, "x", "~", ".",
           ";", "count", "row", "add", "keep", "each", "unlike", "both", "then", "Row", "row;", "-")
    SIGNS = "".join(chr(code) for code in range(32, 127) if code != 37)

    def changed(self, text, dice):
        """The text with a sign or a word put in, left out, exchanged or told twice."""
        words = text.split(" ")
        at = dice.randrange(len(words))
        way = dice.randrange(6)
        if way == 0:
            del words[at]
        elif way == 1:
            words.insert(at, words[at])
        elif way == 2:
            words[at] = dice.choice(self.ODD)
        elif way == 3:
            words = words[:at]
        if way < 4:
            return " ".join(words)
        at = dice.randrange(len(text) + 1)
        sign = dice.choice(self.SIGNS + " .;-+0" * 9)
        return text[:at] + dice.choice(("", sign)) + text[at + dice.randrange(2):]

    def checked(self, text):
        """Checks what is read of a text; tells in a word what comes of it."""
        place = model_place(text)
        if place is not None:
            with self.assertRaises(BadText, msg=text) as caught:
                read_chain(text)
            self.assertEqual(caught.exception.place, place, text)
            return "bad text"
        try:
            one = read_chain(text)
        except BadChain:
            self.assertTrue(self.passes_a_bound(text), text)
            return "bad chain"
        self.assertFalse(self.passes_a_bound(text), text)
        self.assertEqual(written(one), text)
        self.assertEqual(len(makers(one)), len(re.findall("count|row", text)))
        return "chain"

    def passes_a_bound(self, text):
        stages = re.findall("(add|times|keep|drop|take|each|until|unlike|both|then)", text)
        if len(stages) > 12 or len(re.findall("count|row", text)) > 4:
            return True
        if any(len(numbers.split()) > 100 for numbers in re.findall("row([^;]*);", text)):
            return True
        for word, low, high in (("drop", 0, 100), ("take", 0, 100), ("each", 1, 10)):
            if any(not low <= int(n) <= high for n in re.findall(word + r" (\S+)", text)):
                return True
        return any(
            not 2 <= int(wheel) <= 1000 or not 0 <= int(rest) < int(wheel)
            for rest, wheel in re.findall(r"keep (\S+) (\S+)", text))

    def test_each_chain_is_read_as_it_was_written(self):
        maze = Maze(29)
        for _ in range(1000):
            one = maze.whole_chain()
            text = written(one)
            self.assertEqual(self.checked(text), "chain")
            self.assertEqual(read_chain(text), one)

    def test_changed_texts(self):
        maze = Maze(30)
        words = {"bad text": 0, "bad chain": 0, "chain": 0}
        for _ in range(300):
            text = written(maze.whole_chain())
            for _ in range(20):
                other = self.changed(text, maze.dice)
                if maze.dice.random() < 0.2:
                    other = self.changed(other, maze.dice)
                words[self.checked(other)] += 1
        self.assertGreater(min(words.values()), 50, words)


if __name__ == "__main__":
    unittest.main()
