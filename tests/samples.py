"""Values of every sort, for arguments that may be any value, and a schema."""

from innerasks.schemas import Column, Schema, Table

COLUMN = Column("x", "whole")
TABLE = Table("t", [COLUMN])
SCHEMA = Schema(TABLE)

NO_TEXTS = [
    None, True, False, 0, 1, -1, 10 ** 59, -10 ** 59, (), ("x",), (("x",),), [], ["x"], [["x"]], {}, {"x": 1},
    {"x": {"y": []}}, COLUMN, TABLE, SCHEMA, [COLUMN], (TABLE,), ((((None,),),),),
]
TEXTS = ["", " ", "x", "t", "whole", "self", "select", "abcdefghijkl", "abcdefghijklm", "X", "x1", "x y", "\n", "é"]
ANYTHING = NO_TEXTS + TEXTS

# What questions are bound to; t has the places 0 to 2 in a row.
ASKED = Schema(
    Table("t", [Column("x", "whole"), Column("y", "whole"), Column("s", "text")]),
    Table("u", [Column("x", "whole"), Column("z", "text")]),
    Table("v", [Column("w", "whole")]),
)
