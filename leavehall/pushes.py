"""Pushes: flows of least cost, laid push by push along the shortest way that is left.

Passage k can be gone along, which is move 2k, and what is laid on it can be taken back, which
is move 2k + 1; the one undoes the other. What is left of each move stands in one list, so what
is laid on passage k is what is left of move 2k + 1.
"""


def amount_of(passages, start, flow):
    amount = 0
    for passage, number in zip(passages, flow):
        if passage[0] == start:
            amount += number
        if passage[1] == start:
            amount -= number
    return amount


def cost_of(passages, flow):
    return sum([passage[3] * number for passage, number in zip(passages, flow)])


def steps_of(many, passages, start, goal):
    left = left_behind(passages, [0] * len(passages))
    return push_all(moves_of(many, passages), left, start, goal, None)


def best_flow(many, passages, start, goal, turns):
    # Someone whose way is turns + 1 long would add nothing, and any longer way takes away.
    left = left_behind(passages, [0] * len(passages))
    push_all(moves_of(many, passages), left, start, goal, turns)
    return [left[2 * number + 1] for number in range(len(passages))]


def left_behind(passages, flow):
    left = []
    for passage, number in zip(passages, flow):
        left.append(passage[2] - number)
        left.append(number)
    return left


def moves_of(many, passages):
    moves = [[] for room in range(many)]
    for number, passage in enumerate(passages):
        a = passage[0]
        b = passage[1]
        length = passage[3]
        moves[a].append((2 * number, b, length))
        moves[b].append((2 * number + 1, a, -length))
    return moves


def push_all(moves, left, start, goal, longest):
    # The shortest way that is left never grows shorter by a push along it: so the steps rise,
    # and what is laid costs the least for its amount, whenever it is stopped.
    steps = []
    while True:
        reached = reach(moves, left, start)
        if reached[goal] is None:
            return steps
        length = reached[goal][0]
        if longest is not None and length > longest:
            return steps
        pushed = push(left, way_to(reached, start, goal))
        if steps and steps[-1][0] == length:
            steps[-1] = (length, steps[-1][1] + pushed)
        else:
            steps.append((length, pushed))


def reach(moves, left, start):
    # For each room: (length, how many moves, last move, the room ahead of it), or None. Of ways
    # alike in length one of the fewest moves is taken: else, in some halls, each push along them
    # could be as small as 1, however wide the passages are.
    reached = [None] * len(moves)
    reached[start] = (0, 0, None, None)
    waiting = [False] * len(moves)
    queue = [start]
    place = 0
    while place < len(queue):
        room = queue[place]
        place += 1
        waiting[room] = False
        length = reached[room][0]
        count = reached[room][1] + 1
        for move, end, added in moves[room]:
            if left[move] > 0 and is_nearer(length + added, count, reached[end]):
                reached[end] = (length + added, count, move, room)
                if not waiting[end]:
                    waiting[end] = True
                    queue.append(end)
    return reached


def is_nearer(length, count, known):
    if known is None or length < known[0]:
        return True
    return length == known[0] and count < known[1]


def way_to(reached, start, goal):
    way = []
    room = goal
    while room != start:
        way.append(reached[room][2])
        room = reached[room][3]
    return way


def push(left, way):
    pushed = min([left[move] for move in way])
    for move in way:
        left[move] -= pushed
        left[move ^ 1] += pushed
    return pushed
