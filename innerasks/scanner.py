"""The words of the texts of questions [20], and a cursor that goes along them."""

from innerasks.errors import NoQuestion
from innerasks.values import is_text
from innerasks.words import KEYWORDS, is_name

# The longer signs come first: they are taken where several fit.
SIGNS = ("<>", "<=", ">=", "(", ")", ",", ".", "*", "+", "-", "=", "<", ">")
MOST_DIGITS = 40
MOST_OPEN = 30
WORD = "word"
NAME = "name"
INTEGER = "integer"
STRING = "string"
PARAMETER = "parameter"
WRONG = "wrong"
END = "end"


def is_run_part(character):
    """Whether it is a letter from a to z or a digit: these are one word where nothing parts them."""
    return "a" <= character <= "z" or "0" <= character <= "9"


def end_of_run(text, place):
    """The place behind the letters and digits that begin at a place, perhaps none."""
    while place < len(text) and is_run_part(text[place]):
        place += 1
    return place


def is_number(run):
    """Whether letters and digits are an integer as a question may contain it."""
    if len(run) > MOST_DIGITS or not all(["0" <= character <= "9" for character in run]):
        return False
    return run == "0" or run[0] != "0"


def run_word(run):
    """The kind of the word that is made of these letters and digits, and what it says."""
    if run in KEYWORDS:
        return (WORD, run)
    if is_name(run):
        return (NAME, run)
    if is_number(run):
        return (INTEGER, int(run))
    return (WRONG, None)


def string_at(text, place):
    """The string that begins with the quote at a place, and the place behind it; None if it is not closed."""
    characters = []
    place += 1
    while place < len(text):
        if text[place] == "'":
            place += 1
            if text[place:place + 1] != "'":
                return ("".join(characters), place)
        characters.append(text[place])
        place += 1
    return None


def string_word(text, place):
    """The string at a place: kind, what it says, and the place behind it."""
    found = string_at(text, place)
    if found is None or not is_text(found[0]):
        return (WRONG, None, place)
    return (STRING, found[0], found[1])


def parameter_word(text, place):
    """The parameter at a place: kind, what it says, and the place behind it."""
    end = end_of_run(text, place + 1)
    name = text[place + 1:end]
    return (PARAMETER, name, end) if is_name(name) else (WRONG, None, place)


def word_at(text, place):
    """The word at a place: kind, what it says, and the place behind it."""
    if is_run_part(text[place]):
        end = end_of_run(text, place)
        kind, said = run_word(text[place:end])
        return (kind, said, end)
    if text[place] == "'":
        return string_word(text, place)
    if text[place] == ":":
        return parameter_word(text, place)
    for sign in SIGNS:
        if text[place:place + len(sign)] == sign:
            return (WORD, sign, place + len(sign))
    return (WRONG, None, place)


def words_of(text):
    """The words as tuples (kind, what it says, place), up to the end or to a wrong one."""
    words = []
    place = 0
    while place < len(text):
        if text[place] in " \n":
            place += 1
            continue
        kind, said, end = word_at(text, place)
        words.append((kind, said, place))
        if kind == WRONG:
            # Nobody gets behind a wrong word, so where it ends has no meaning.
            return words
        place = end
    words.append((END, None, len(text)))
    return words


class Cursor:
    """The words of a text, how far they are read, and how many `(` and `case` are not closed."""

    def __init__(self, text):
        self._words = words_of(text)
        self._reached = 0
        self._depth = 0

    def fail(self):
        """Tells that no question goes on with the current word."""
        raise NoQuestion(self._words[self._reached][2])

    def holds(self, kind):
        """Whether the current word is of a kind."""
        return self._words[self._reached][0] == kind

    def sees(self, *choice):
        """Whether the current word is one of these keywords and signs."""
        return self.holds(WORD) and self._words[self._reached][1] in choice

    def step(self):
        """Goes behind the current word, which is not the end; tells what it says."""
        if self.sees("(", "case"):
            if self._depth == MOST_OPEN:
                self.fail()
            self._depth += 1
        if self.sees(")", "end"):
            self._depth -= 1
        self._reached += 1
        return self._words[self._reached - 1][1]

    def passes(self, word):
        """Whether the current word is this keyword or sign; if it is, goes behind it."""
        if not self.sees(word):
            return False
        self.step()
        return True

    def expect(self, word):
        """Goes behind this keyword or sign; nothing else may stand here."""
        if not self.passes(word):
            self.fail()

    def take(self, kind):
        """What the current word says, which must be of this kind; goes behind it."""
        if not self.holds(kind):
            self.fail()
        return self.step()

    def finish(self):
        """No word may stand here."""
        if not self.holds(END):
            self.fail()
