"""The texts of trees [70]: nested tuples of null, truths, integers and strings."""

from innerasks.scanner import string_at

MOST_DIGITS = 1000
WORDS = {"null": None, "true": True, "false": False}


def write_tree(tree):
    """The text of a tree."""
    if tree is None:
        return "null"
    if tree is True or tree is False:
        return "true" if tree else "false"
    if isinstance(tree, str):
        doubled = tree.replace("'", "''")
        return f"'{doubled}'"
    if isinstance(tree, tuple):
        told = " ".join([write_tree(part) for part in tree])
        return f"({told})"
    return str(tree)


def tree_at(text, place):
    """The tree at a place of a text, alone in a list, and the place behind it; None for both if there is none."""
    # A list for each tuple that is not closed.
    waiting = []
    while True:
        if text.startswith("(", place) and not text.startswith("()", place):
            waiting.append([])
            place += 1
            continue
        found, place = leaf_at(text, place)
        while found is not None and len(waiting) > 0:
            waiting[-1].append(found[0])
            if not text.startswith(")", place):
                break
            found = [tuple(waiting.pop())]
            place += 1
        if found is None or len(waiting) == 0:
            return found, place
        if not text.startswith(" ", place):
            return None, place
        place += 1


def leaf_at(text, place):
    """The same for a tree that is no tuple with items."""
    if text.startswith("()", place):
        return [()], place + 2
    if text.startswith("'", place):
        return string_leaf(text, place)
    end = place
    while end < len(text) and text[end] not in " ()'":
        end += 1
    word = text[place:end]
    if word in WORDS:
        return [WORDS[word]], end
    return ([int(word)], end) if is_integer(word) else (None, place)


def string_leaf(text, place):
    """The same for a string, which may contain each sign from the space to the last one."""
    told = string_at(text, place)
    if told is None or not all([" " <= letter <= "~" for letter in told[0]]):
        return None, place
    return [told[0]], told[1]


def is_integer(word):
    """Whether a word is the text of an integer."""
    digits = word[1:] if word.startswith("-") else word
    if not 1 <= len(digits) <= MOST_DIGITS or not all(["0" <= digit <= "9" for digit in digits]):
        return False
    # Neither zeros in front, nor a zero below zero.
    return digits[0] != "0" or word == "0"


def trees_in(text):
    """The list of the trees of a text, with single spaces between them; None if it is no such text."""
    trees = []
    place = 0
    while True:
        found, place = tree_at(text, place)
        if found is None:
            return None
        trees.append(found[0])
        if place == len(text):
            return trees
        if not text.startswith(" ", place):
            return None
        place += 1
