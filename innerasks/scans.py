"""The Scans of plans and the tables of schemas."""

from innerasks.errors import BadColumns
from innerasks.plans import Scan


def check_scans(schema, plan):
    """Each Scan must be of a table, with as many columns."""
    for _, node in plan.walk():
        # A table that the schema does not have is told by the schema.
        if isinstance(node, Scan) and len(node.columns) != len(schema[node.table]):
            raise BadColumns(node.table)
