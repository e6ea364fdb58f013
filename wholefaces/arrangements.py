"""All orders of a few things, all parts of them, all choices out of a few rows, and walks along the directions."""


def all_orders(things):
    """All orders of a tuple of things, as tuples: ascending, if the things ascend."""
    if len(things) == 0:
        return [()]
    orders = []
    for k in range(len(things)):
        rest = things[:k] + things[k + 1:]
        orders.extend([(things[k],) + order for order in all_orders(rest)])
    return orders


def all_parts(things, many):
    """All tuples of so many of the things, in their sequence: ascending, if the things ascend."""
    if many == 0:
        return [()]
    parts = []
    for k in range(len(things)):
        parts.extend([(things[k],) + part for part in all_parts(things[k + 1:], many - 1)])
    return parts


def all_choices(rows):
    """All tuples with one thing out of each row, the last one changing first."""
    choices = [()]
    for row in rows:
        choices = [choice + (thing,) for choice in choices for thing in row]
    return choices


def straight_walk(first, last, directions):
    """The points on the way from first that takes on the numbers of last, one direction after the other."""
    walk = [first]
    for direction in directions:
        at = walk[-1]
        walk.append(at[:direction] + (last[direction],) + at[direction + 1:])
    return tuple(walk)
