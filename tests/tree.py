"""The tree of directions, walked step by step as point 6 describes it."""


TOP = ((1, 0), (0, 1))


def rows_of_tree(levels, start=TOP):
    """For each level from 1 on the rows (direction, (flat neighbor, steep neighbor), kinds of the steps).

    The rows of a level stand in ascending order of q / p: everything below the
    flat child of a direction lies between its flat neighbor and itself. With
    other neighbors at the start it is the tree below another direction.
    """
    rows = [made(*start, ())]
    for _ in range(levels):
        yield rows
        below = []
        for direction, (flat, steep), kinds in rows:
            below.append(made(flat, direction, (*kinds, "flat")))
            below.append(made(direction, steep, (*kinds, "steep")))
        rows = below


def made(flat, steep, kinds):
    return ((flat[0] + steep[0], flat[1] + steep[1]), (flat, steep), kinds)


def directions_in_order(levels):
    """The side directions and the directions of the first levels, in the order of point 7."""
    found = [(1, 0), (0, 1)]
    for rows in rows_of_tree(levels):
        found.extend(direction for direction, _, _ in rows)
    return found


def fibonacci_pair(digits):
    """Two neighboring Fibonacci numbers of the given number of digits, the smaller one first, and their index."""
    low, high, index = 1, 1, 1
    while len(str(low)) < digits:
        low, high, index = high, low + high, index + 1
    return low, high, index
