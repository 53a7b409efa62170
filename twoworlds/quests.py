"""The first row of letters that leads somewhere."""


def first_row_to(begin, letters, follow, is_goal):
    """The first row, by the order of rows, that leads from a node to a goal, or None.

    A node is a key; by a letter it is followed by another one, or by None, from which
    no row leads to a goal.
    """
    todo = [(begin, [])]
    seen = {begin: True}
    at = 0
    while at < len(todo):
        node, row = todo[at]
        if is_goal(node):
            return row
        for letter in letters:
            after = follow(node, letter)
            if after is not None and after not in seen:
                seen[after] = True
                todo.append((after, [*row, letter]))
        at += 1
    return None
