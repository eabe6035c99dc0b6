"""Rows that are counted, put in order and divided into lots; rows of plans may hold truths, too."""

from innerasks.values import in_order, value_place


def counted(rows):
    """How often each row is there, by the row."""
    counts = {}
    for row in rows:
        counts[row] = counts.get(row, 0) + 1
    return counts


def once(rows):
    """Each row once, as it came first."""
    return list(counted(rows))


def less(rows, others):
    """Each row as it is in rows more often than in others."""
    counts = counted(others)
    left = []
    for row in rows:
        many = counts.get(row, 0)
        if many > 0:
            counts[row] = many - 1
        else:
            left.append(row)
    return left


def common(rows, others):
    """Each row as often as in both."""
    counts = counted(others)
    found = []
    for row in rows:
        many = counts.get(row, 0)
        if many > 0:
            counts[row] = many - 1
            found.append(row)
    return found


def combined(word, rows, others):
    """The union, except or intersect of rows, with all."""
    if word == "union":
        return rows + others
    return less(rows, others) if word == "except" else common(rows, others)


def sorted_by(rows, order):
    """The rows in the order of tuples (index, whether down), then of all their values."""
    told = in_order(rows)
    # Sorting keeps what is alike in its order: the last key comes first.
    for index, is_down in order[::-1]:
        told = sorted_at(told, index, is_down)
    return told


def sorted_at(rows, index, is_down):
    """The rows in the order of their values in one place, those that are alike as they came."""
    if is_down:
        return sorted(rows, key=lambda row: value_place(row[index]), reverse=True)
    return sorted(rows, key=lambda row: value_place(row[index]))


def lots_of(rows, places):
    """The lots of rows that have the same values in these places, by these values, as they came."""
    lots = {}
    for row in rows:
        lots.setdefault(tuple([row[place] for place in places]), []).append(row)
    return lots
