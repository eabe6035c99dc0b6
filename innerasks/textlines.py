"""The lines of the texts of plans and of databases [73]."""

from innerasks.errors import InvalidText


def lines_of(text):
    """The lines of a text; InvalidText for any value that is none."""
    if not isinstance(text, str):
        raise InvalidText(0)
    return text.split("\n")
