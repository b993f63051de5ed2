"""Chains as texts: writing and reading them."""

from drawchain.chains import check_chain, has_chain
from drawchain.errors import BadText

FIGURES = "0123456789"
FIGURES_AT_MOST = 30

# How many numbers stand behind the word of a stage that has no chain.
NUMBERS_OF = {
    "add": 1, "times": 1, "keep": 2, "drop": 1, "take": 1, "each": 1, "until": 1, "unlike": 0,
}


def written(chain):
    """The text of a chain."""
    check_chain(chain)
    return " ".join(words_of(chain))


def words_of(chain):
    words = words_of_maker(chain[0])
    for stage in chain[1]:
        words.append(stage[0])
        if has_chain(stage):
            words.extend(words_of(stage[1]))
        else:
            words.extend(words_of_numbers(stage[1:]))
    words.append(".")
    return words


def words_of_maker(maker):
    if maker[0] == "row":
        return ["row"] + words_of_numbers(maker[1]) + [";"]
    return ["count"] + words_of_numbers(maker[1:])


def words_of_numbers(numbers):
    return [str(number) for number in numbers]


def read_chain(text):
    """The chain that is written in the text."""
    chain = chain_of(Words(text))
    # Only behind the last word, as BadText goes ahead of BadChain.
    check_chain(chain)
    return chain


def chain_of(words):
    """The chain that the words are, which may yet be beyond the bounds of chains."""
    # A list instead of recursion: what is refused may be nested without bound.
    begun = [Begun("", words.take_maker())]
    while begun:
        word = words.take()
        if word in NUMBERS_OF:
            begun[-1].stages.append((word,) + words.take_numbers(NUMBERS_OF[word]))
        elif word in ("both", "then"):
            begun.append(Begun(word, words.take_maker()))
        elif word == ".":
            ended = begun.pop()
            if begun:
                begun[-1].stages.append((ended.word, ended.chain()))
        else:
            raise BadText(words.place)
    words.check_end()
    return ended.chain()


class Begun:
    """A chain whose end is not read yet, and the word of the stage that it is of."""

    def __init__(self, word, maker):
        self.word = word
        self.maker = maker
        self.stages = []

    def chain(self):
        return (self.maker, tuple(self.stages))


class Words:
    """The words of a text, to be taken one by one; place is that of the last one taken."""

    def __init__(self, text):
        self.words = text.split(" ")
        self.place = -1

    def take(self):
        self.place += 1
        if self.place == len(self.words):
            # Just as the empty word, which can stand nowhere: so the place of what is
            # missing, which is how many words there are, is refused in the same way.
            return ""
        return self.words[self.place]

    def take_maker(self):
        word = self.take()
        if word == "count":
            return ("count",) + self.take_numbers(2)
        if word == "row":
            return ("row", self.take_row())
        raise BadText(self.place)

    def take_row(self):
        numbers = []
        word = self.take()
        while word != ";":
            numbers.append(self.number_of(word))
            word = self.take()
        return tuple(numbers)

    def take_numbers(self, many):
        return tuple([self.number_of(self.take()) for _ in range(many)])

    def number_of(self, word):
        """The number that the word taken last is."""
        if not is_number_word(word):
            raise BadText(self.place)
        return int(word)

    def check_end(self):
        """Refuses a word that is left."""
        if self.place + 1 < len(self.words):
            raise BadText(self.place + 1)


def is_number_word(word):
    if word == "0":
        return True
    figures = word.removeprefix("-")
    if not 1 <= len(figures) <= FIGURES_AT_MOST or figures[0] == "0":
        return False
    return all([sign in FIGURES for sign in figures])
