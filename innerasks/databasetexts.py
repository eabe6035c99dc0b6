"""The texts of databases [72, 73]."""

from innerasks.databases import Database
from innerasks.errors import InvalidText
from innerasks.schemas import Column, Schema, Table
from innerasks.textlines import lines_of
from innerasks.treetexts import trees_in, write_tree

# Which lines may stand behind a line, by their first words.
BEHIND = {
    "": ("table",),
    "table": ("column",),
    "column": ("column", "key", "reference", "row", "table"),
    "key": ("key", "reference", "row", "table"),
    "reference": ("reference", "row", "table"),
    "row": ("row", "table"),
}


def write_database(database):
    """The text of a database."""
    lines = []
    for table in database.schema.tables:
        lines.append(f"table {table.name}")
        lines.extend([column_text(column) for column in table.columns])
        lines.extend([f"key {write_tree(key)}" for key in table.unique])
        lines.extend([f"reference {write_tree(reference)}" for reference in table.references])
        lines.extend([f"row {write_tree(row)}" for row in database[table.name]])
    return "\n".join(lines)


def column_text(column):
    """The line of a column."""
    text = f"column {column.name} {column.kind}"
    return f"{text} required" if column.required else text


def read_database(text):
    """The database of a text."""
    # All lines are looked at ahead of all tables.
    blocks = blocks_told(lines_of(text))
    tables = []
    rows = {}
    for name, told in blocks:
        columns = [Column(words[0], words[1], required=len(words) == 3) for words in told["column"]]
        tables.append(Table(name, columns, unique=told["key"], references=told["reference"]))
        rows[name] = told["row"]
    return Database(Schema(*tables), rows)


def blocks_told(lines):
    """For each table its name, and a dict from first words to what the lines with these words tell."""
    blocks = []
    before = ""
    for index, line in enumerate(lines):
        word, _, rest = line.partition(" ")
        told = line_told(word, rest) if word in BEHIND[before] else None
        if told is None:
            raise InvalidText(index)
        if word == "table":
            blocks.append((told[0], {"column": [], "key": [], "reference": [], "row": []}))
        else:
            blocks[-1][1][word].append(told if word == "column" else told[0])
        before = word
    if before == "table":
        raise InvalidText(len(lines))
    return blocks


def line_told(word, rest):
    """The words or the tree that a line tells behind its first word, in a list; None if it has not its form."""
    if word in ("key", "reference", "row"):
        trees = trees_in(rest)
        return trees if trees is not None and len(trees) == 1 else None
    words = rest.split(" ")
    if "" in words:
        return None
    if word == "table":
        return words if len(words) == 1 else None
    return words if len(words) == 2 or len(words) == 3 and words[2] == "required" else None
