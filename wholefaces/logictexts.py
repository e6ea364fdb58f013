"""Trees of not, and, or over atoms of any kind, read from words and written as lines."""


def joined_before(stack, tree, word):
    """The tree behind what waits for it on the stack, if that is this word; what waits is taken away."""
    if len(stack) > 0 and stack[-1][0] == word:
        return (word, stack.pop()[1], tree)
    return tree


def take_logic(cursor, take_atom):
    """Takes a tree, which is returned; take_atom(cursor) takes an atom.

    The stack has what waits for the unit that comes next: ("not",), ("(",), or ("and", left), ("or", left).
    So brackets may stand in one another as deep as wished.
    """
    stack = []
    while True:
        while cursor.now() in ("not", "("):
            stack.append((cursor.step(),))
        tree = take_atom(cursor)
        while True:
            while len(stack) > 0 and stack[-1][0] == "not":
                stack.pop()
                tree = ("not", tree)
            tree = joined_before(stack, tree, "and")
            if cursor.now() == "and":
                break
            tree = joined_before(stack, tree, "or")
            if cursor.now() == "or":
                break
            if len(stack) == 0:
                return tree
            cursor.take((")",))
            stack.pop()
        stack.append((cursor.step(), tree))


def bracketed(line, needed):
    """The line in brackets, if they are needed."""
    return f"({line})" if needed else line


def logic_line(tree, atom_line):
    """The line of a tree; atom_line(tree) is that of an atom."""
    word = tree[0]
    if word == "not":
        return "not " + bracketed(logic_line(tree[1], atom_line), tree[1][0] in ("and", "or"))
    if word == "or":
        right = bracketed(logic_line(tree[2], atom_line), tree[2][0] == "or")
        return logic_line(tree[1], atom_line) + " or " + right
    if word == "and":
        left = bracketed(logic_line(tree[1], atom_line), tree[1][0] == "or")
        right = bracketed(logic_line(tree[2], atom_line), tree[2][0] in ("and", "or"))
        return left + " and " + right
    return atom_line(tree)
