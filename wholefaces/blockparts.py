"""What blocks are made of: which bodies are blocks, their tips, middles, halves and parents.

Nothing is checked here: other files do this before they call these functions.
"""

from wholefaces.kinds import is_body


def axis_step(one, other):
    """The pair (direction, difference) if two points differ in one direction alone, otherwise None."""
    steps = [(i, other[i] - one[i]) for i in range(len(one)) if one[i] != other[i]]
    if len(steps) != 1:
        return None
    return steps[0]


def steps_from(start, corners, size):
    """The directions of the steps of this size from start along the corners, as long as there are such."""
    directions = []
    at = start
    for corner in corners:
        step = axis_step(at, corner)
        if step is None or abs(step[1]) != size:
            return directions
        directions.append(step[0])
        at = corner
    return directions


def half_point(one, other):
    """The point half-way of two points, which is one."""
    return tuple([(a + b) // 2 for a, b in zip(one, other)])


def has_tips(body, size, along):
    """Whether the first corner is a first tip of this size, the directions to the last tip being along."""
    return all([body[0][i] % (2 * size if i in along else size) == 0 for i in range(len(body[0]))])


def has_sides(body, size, along):
    """Whether the corners behind the last tip go on from the middle, and each step is in a direction of its own."""
    many = len(along)
    middle = half_point(body[0], body[many])
    across = steps_from(middle, body[many + 1:], size // 2)
    return len(set(along + across)) == len(body) - 1


def body_generation(space, body):
    """The generation of the block that a body is, None if it is none.

    The unit is never reckoned out: rounds of any value may be there to be looked at.
    """
    dims, rounds = space
    step = axis_step(body[0], body[1])
    if step is None:
        return None
    size = abs(step[1])
    level = rounds + 1 - size.bit_length()
    if size & (size - 1) != 0 or level < 0:
        return None
    along = steps_from(body[0], body[1:], size)
    # With size 1 the steps from the middle have no length, so there is no block behind generation top.
    if not has_tips(body, size, along) or not has_sides(body, size, along):
        return None
    return dims * level + dims - len(along)


def found_generation(space, thing):
    """The generation of the block that any thing is, None if it is none."""
    if not is_body(space, thing):
        return None
    return body_generation(space, thing)


def tip_place(dims, generation):
    """Which corner of a block of this generation is its last tip."""
    return dims - generation % dims


def block_middle(block, generation):
    """The middle of a block of a generation below top."""
    return half_point(block[0], block[tip_place(len(block) - 1, generation)])


def halves_made(block, generation):
    """The low and the high half of a block of a generation below top."""
    k = tip_place(len(block) - 1, generation)
    middle = half_point(block[0], block[k])
    rest = (middle,) + block[k + 1:]
    return block[:k] + rest, block[1:k + 1] + rest


def mirrored(point, middle):
    """The point as far behind the middle as this one is ahead of it."""
    return tuple([2 * b - a for a, b in zip(point, middle)])


def parent_made(space, block, generation):
    """The parent of a block of a generation above 0, and the figure of the half that it is."""
    k = tip_place(space[0], generation - 1)
    middle, rest = block[k], block[k + 1:]
    parent = block[:k] + (mirrored(block[0], middle),) + rest
    if body_generation(space, parent) == generation - 1:
        return parent, "0"
    return (mirrored(block[k - 1], middle),) + block[:k] + rest, "1"


def root_and_path(space, block, generation):
    """The root of which a block comes, and the path from it."""
    path = ""
    for above in range(generation):
        block, figure = parent_made(space, block, generation - above)
        path = figure + path
    return block, path


def block_along(root, path):
    """The block with this path from a root."""
    block = root
    for generation in range(len(path)):
        low, high = halves_made(block, generation)
        block = low if path[generation] == "0" else high
    return block


def size_in(space, generation):
    """The size of blocks of this generation."""
    return 1 << (space[1] - generation // space[0])


def low_round(block, size):
    """The low corner of the cube of this size, at least that of the block, in which a block lies."""
    return tuple([min([corner[i] for corner in block]) // size * size for i in range(len(block) - 1)])
