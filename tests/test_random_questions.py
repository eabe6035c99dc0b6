"""The reader and the writer against a grammar and a writer that share nothing with them [20 to 23]."""

import random
import unittest

from grammar import recognized
from innerasks.errors import NoQuestion
from innerasks.reader import read_question
from innerasks.words import KEYWORDS
from innerasks.writer import write_question
from random_questions import Maker, Writer, depth_of, text_of

SPARE = list(KEYWORDS) + "( ) , . * + - = <> < <= > >= x 0 7 'a' :p ( ) ( , x y not null".split()


def place_of_fault(text):
    try:
        read_question(text)
    except NoQuestion as error:
        return error.place
    return None


def words_at_random(seed, depth=3):
    return Writer(seed).question(Maker(seed).question(depth))


def without_pair(text, at):
    """The text without the parenthesis at a place and the one that closes it."""
    depth, end, is_string = 0, at, False
    while True:
        is_string = is_string != (text[end] == "'")
        depth += 0 if is_string else (text[end] == "(") - (text[end] == ")")
        if depth == 0:
            return text[:at] + " " + text[at + 1:end] + " " + text[end + 1:]
        end += 1


def parentheses(text):
    is_string = False
    for at, character in enumerate(text):
        is_string = is_string != (character == "'")
        if character == "(" and not is_string:
            yield at


class RandomQuestions(unittest.TestCase):
    def test_trees_come_back(self):
        for seed in range(1500):
            tree = Maker(seed).question(3)
            words = Writer(seed).question(tree)
            if depth_of(words) <= 30:
                text, _ = text_of(words, random.Random(seed))
                self.assertEqual(tree, read_question(text), text)

    def test_the_written_form_comes_back(self):
        for seed in range(1500):
            tree = Maker(seed).question(4)
            text = write_question(tree)
            self.assertEqual(tree, read_question(text), text)
            self.assertEqual(text, write_question(read_question(text)))

    def test_no_parentheses_are_spare(self):
        for seed in range(500):
            tree = Maker(seed).question(3)
            text = write_question(tree)
            for at in parentheses(text):
                other = without_pair(text, at)
                if place_of_fault(other) is None:
                    self.assertNotEqual(tree, read_question(other), (text, other))

    def test_places(self):
        for seed in range(400):
            maker = random.Random(seed)
            words = words_at_random(seed, 2)
            for _ in range(maker.randint(0, 2)):
                at = maker.randrange(len(words))
                words[at:at + maker.randint(0, 1)] = [maker.choice(SPARE)] * maker.randint(0, 1)
                words = words or ["x"]
            words = words[:maker.randint(1, 60)]
            text, places = text_of(words, maker)
            many, is_question = recognized(words, KEYWORDS + tuple("( ) , . * + - = <> < <= > >=".split()))
            expected = None if is_question else (places + [len(text)])[many]
            self.assertEqual(expected, place_of_fault(text), text)


if __name__ == "__main__":
    unittest.main()
