"""The texts of plans [71, 73]."""

from innerasks.errors import InvalidText
from innerasks.lotplans import First, Group, Number
from innerasks.pairplans import Depend, Except, Intersect, Join, Union
from innerasks.plans import Compute, Distinct, Filter, Keep, Rows, Scan
from innerasks.textlines import lines_of
from innerasks.treetexts import trees_in, write_tree

# How many parts, and how many fields, a node of each class has.
PARTS = {
    "Rows": 0, "Scan": 0, "Filter": 1, "Compute": 1, "Keep": 1, "Distinct": 1, "Number": 1, "Group": 1, "First": 1,
    "Union": 2, "Except": 2, "Intersect": 2, "Join": 2, "Depend": 2,
}
FIELDS = {
    "Rows": 2, "Scan": 2, "Filter": 1, "Compute": 1, "Keep": 1, "Distinct": 0, "Number": 2, "Group": 2, "First": 3,
    "Union": 1, "Except": 1, "Intersect": 1, "Join": 3, "Depend": 3,
}


def write_plan(plan):
    """The text of a plan: a line for each node."""
    return "\n".join([node_text(path, node) for path, node in plan.walk()])


def node_text(path, node):
    """The line of a node."""
    words = [node.__class__.__name__] + [write_tree(field) for field in node.fields]
    return "  " * len(path) + " ".join(words)


def read_plan(text):
    """The plan of a text."""
    # All lines are looked at ahead of all nodes.
    told = nodes_told(lines_of(text))
    waiting = []
    made = None
    for word, fields in told:
        waiting.append((word, fields, []))
        while len(waiting) > 0 and len(waiting[-1][2]) == PARTS[waiting[-1][0]]:
            word_above, fields_above, parts = waiting.pop()
            made = node_made(word_above, parts, fields_above)
            if len(waiting) > 0:
                waiting[-1][2].append(made)
    return made


def nodes_told(lines):
    """The class and the fields of each node, in the order of walk."""
    nodes = []
    # The depths of the nodes that must come, the next one last.
    depths = [0]
    for index, line in enumerate(lines):
        node = node_told(line, depths.pop()) if len(depths) > 0 else None
        if node is None:
            raise InvalidText(index)
        nodes.append((node[0], node[1]))
        depths.extend([node[2] + 1] * PARTS[node[0]])
    if len(depths) > 0:
        raise InvalidText(len(lines))
    return nodes


def node_told(line, depth):
    """The class, the fields and the depth of the node of a line; None if it has not the form of one so deep."""
    gap = "  " * depth
    if not line.startswith(gap):
        return None
    word, space, rest = line[len(gap):].partition(" ")
    if word not in PARTS:
        return None
    fields = [] if space == "" else trees_in(rest)
    return (word, fields, depth) if fields is not None and len(fields) == FIELDS[word] else None


def node_made(word, parts, fields):
    """The node of a class with these parts and fields."""
    if word == "Join" or word == "Depend":
        told = fields[:1] + parts + fields[1:]
        return Join(*told) if word == "Join" else Depend(*told)
    told = parts + fields
    if word == "Rows":
        return Rows(*told)
    if word == "Scan":
        return Scan(*told)
    if word == "Filter":
        return Filter(*told)
    if word == "Compute":
        return Compute(*told)
    if word == "Keep":
        return Keep(*told)
    if word == "Distinct":
        return Distinct(*told)
    if word == "Number":
        return Number(*told)
    if word == "Group":
        return Group(*told)
    if word == "First":
        return First(*told)
    if word == "Union":
        return Union(*told)
    return Except(*told) if word == "Except" else Intersect(*told)
