"""Walks: a flow without a ring, parted into walks from start to goal."""


def length_of(passages, walk):
    return sum([passages[number][3] for number in walk])


def walks_of(passages, start, goal, flow):
    # Each walk takes away all that is left on one of its passages at least: so there are never
    # more walks than passages.
    left = list(flow)
    walks = []
    while True:
        walk = walk_along(passages, start, goal, left)
        if not walk:
            return walks
        many = min([left[number] for number in walk])
        for number in walk:
            left[number] -= many
        walks.append((walk, many))


def walk_along(passages, start, goal, left):
    # What is left is still a flow without a ring: so whoever has set out can go on until goal, and
    # comes to no passage twice. Only from start there may be no way on.
    walk = []
    room = start
    while room != goal:
        number = passage_on(passages, room, left)
        if number is None:
            return []
        walk.append(number)
        room = passages[number][1]
    return walk


def passage_on(passages, room, left):
    for number, passage in enumerate(passages):
        if passage[0] == room and left[number] > 0:
            return number
    return None
