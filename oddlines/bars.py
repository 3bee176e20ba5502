"""Bars: papers for rows of numbers that no web has."""

from oddlines.kinds import is_ascending, is_pair


def _is_over(row, high, low):
    """Tell whether the people of high want more lines than they can have beside those of low."""
    asked = sum([row[person] for person in high]) - sum([row[person] for person in low])
    return asked > len(high) * (len(row) - 1 - len(low))


def bar(row):
    """Return a bar of row, None if row is a web's."""
    if sum(row) % 2 == 1:
        return "odd"
    ranks = sorted([(-number, person) for person, number in enumerate(row)])
    people = [person for _, person in ranks]
    # No other two lots need be looked at: that is what Erdos and Gallai have shown.
    for size in range(1, len(row) + 1):
        high = tuple(sorted(people[:size]))
        low = tuple(sorted([person for person in people[size:] if row[person] < size]))
        if _is_over(row, high, low):
            return (high, low)
    return None


def _is_two_lots(many, value):
    """Tell whether value is a pair of ascending tuples of people, nobody being in both."""
    if not is_pair(value):
        return False
    high, low = value
    if not is_ascending(high, 0, many - 1) or not is_ascending(low, 0, many - 1):
        return False
    return not any([person in low for person in high])


def bar_error(row, value):
    """Return None if value is a bar of row, otherwise the first thing that is wrong with it."""
    if value == "odd":
        return None if sum(row) % 2 == 1 else "even"
    if not _is_two_lots(len(row), value):
        return "form"
    high, low = value
    return None if _is_over(row, high, low) else "little"
