"""The Scans of plans and the tables of schemas."""

from innerasks.errors import BadColumns, UnknownTable
from innerasks.plans import Scan


def check_scans(schema, plan):
    """Each Scan must be of a table, with as many columns."""
    for _, node in plan.walk():
        if not isinstance(node, Scan):
            continue
        if node.table not in schema:
            raise UnknownTable(node.table)
        if len(node.columns) != len(schema[node.table]):
            raise BadColumns(node.table)
