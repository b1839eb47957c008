"""What several tests need: halls to ask about, and answers found in another, plainer way."""

import collections
import copy
import itertools
import random
import signal
import sys
import unittest

from leavehall.errors import HallError, NoHall

GREATEST = 10 ** 60 - 1
# Sixty passages as long as this make a way that is no longer than turns can be many.
LONG = GREATEST // 60
# There are many best plans: so another one would be told, were it left to chance or to what was asked before.
SEVERAL_BEST = (5, [(0, 1, 3, 1), (0, 2, 3, 1), (0, 3, 3, 1), (1, 4, 2, 1), (2, 4, 2, 1), (3, 4, 2, 1),
                    (1, 2, 3, 1), (2, 3, 3, 1), (3, 1, 3, 1), (0, 4, 4, 5), (0, 4, 4, 5)], 0, 4)
# The second push takes back what the first laid from room 1 to room 2.
BARRED = (4, [(0, 1, 1, 1), (1, 2, 1, 1), (2, 3, 1, 1), (0, 2, 1, 3), (1, 3, 1, 3)], 0, 3)


class TooLong(Exception):
    pass


class TimedTest(unittest.TestCase):
    """Breaks each test off that takes far too long, so that it fails and does not hang."""

    SECONDS = 60

    def setUp(self):
        before = signal.signal(signal.SIGALRM, self.break_off)
        self.addCleanup(signal.signal, signal.SIGALRM, before)
        self.addCleanup(signal.alarm, 0)
        signal.alarm(self.SECONDS)

    def break_off(self, number, frame):
        raise TooLong(f"more than {self.SECONDS} seconds")

    def told(self, question, *handed):
        """What is answered, when nothing that was handed in is changed."""
        kept = copy.deepcopy(handed)
        answer = question(*handed)
        self.assertEqual(handed, kept)
        return answer

    def assert_own(self, question):
        """What is told is the asker's own: changing it changes no answer, neither a later nor an earlier one."""
        told = question()
        kept = copy.deepcopy(told)
        spoil(question())
        self.assertEqual(told, kept)
        self.assertEqual(question(), kept)

    def assert_refused(self, error, question, *handed):
        with self.assertRaises(HallError, msg=handed) as caught:
            self.told(question, *handed)
        self.assertIs(type(caught.exception), error, handed)
        if error is NoHall:
            self.assertIsNone(caught.exception.place)

    def whole(self, number):
        self.assertIs(type(number), int)
        return number

    def assert_walks(self, passages, start, goal, walks):
        self.assertIs(type(walks), list)
        for told in walks:
            self.assertIs(type(told), tuple)
            self.assertEqual(len(told), 2)
            self.assert_walk(passages, start, goal, told[0])
            self.assertGreaterEqual(self.whole(told[1]), 1)

    def assert_walk(self, passages, start, goal, walk):
        self.assertIs(type(walk), list)
        self.assertEqual(len(set(walk)), len(walk), walk)
        room = start
        for number in walk:
            self.assertIn(self.whole(number), range(len(passages)))
            self.assertEqual(passages[number][0], room, walk)
            room = passages[number][1]
        self.assertNotEqual(walk, [])
        self.assertEqual(room, goal, walk)

    def assert_moments(self, many, start, goal, turns, moments):
        self.assertIs(type(moments), list)
        self.assertEqual(len(moments), many)
        for moment in moments:
            self.assertGreaterEqual(self.whole(moment), 0)
            self.assertLessEqual(moment, turns + 1)
        self.assertEqual((moments[start], moments[goal]), (0, turns + 1))

    def assert_out(self, many, passages, start, goal, turns, told):
        """All that point 10 says of (many, walks, moments)."""
        self.assertIs(type(told), tuple)
        self.assertEqual(len(told), 3)
        people, walks, moments = told
        self.assert_walks(passages, start, goal, walks)
        for walk, _ in walks:
            self.assertLessEqual(walked(passages, walk), turns)
        for laid, passage in zip(laid_by(passages, walks), passages):
            self.assertLessEqual(laid, passage[2])
        self.assertEqual(self.whole(people), sum(number * (turns - walked(passages, walk) + 1)
                                                 for walk, number in walks))
        self.assert_moments(many, start, goal, turns, moments)
        self.assertEqual(bound(passages, moments), people)

    def assert_fewest(self, many, passages, start, goal, people, told):
        """All that point 13 says of (turns, plan, moments), or of None."""
        if told is None:
            self.assertNotIn(goal, rooms_from(passages, start))
            return
        self.assertIs(type(told), tuple)
        self.assertEqual(len(told), 3)
        turns, plan, moments = told
        self.assertGreaterEqual(self.whole(turns), 1)
        self.assert_plan(passages, start, goal, turns, plan)
        self.assertEqual(sum(number * (last - first + 1) for _, number, first, last in plan), people)
        self.assert_moments(many, start, goal, turns - 1, moments)
        self.assertLess(bound(passages, moments), people)

    def assert_plan(self, passages, start, goal, turns, plan):
        """A plan by which nobody comes out behind turns, and no passage is overfilled."""
        self.assertIs(type(plan), list)
        for told in plan:
            self.assertIs(type(told), tuple)
            walk, number, first, last = told
            self.assert_walk(passages, start, goal, walk)
            self.assertGreaterEqual(self.whole(number), 1)
            self.assertGreaterEqual(self.whole(first), 0)
            self.assertGreaterEqual(self.whole(last), first)
            self.assertLessEqual(last + walked(passages, walk), turns)
        for passage, spans in zip(passages, spans_by_passage(passages, plan)):
            for moment, _, _ in spans:
                together = sum(number for first, last, number in spans if first <= moment <= last)
                self.assertLessEqual(together, passage[2])


def spoil(told):
    """Empties every list in what was told."""
    if isinstance(told, (list, tuple)):
        for thing in told:
            spoil(thing)
    if isinstance(told, list):
        told.clear()


def name_of(number):
    """A name for each number from 0 to 675."""
    letters = "abcdefghijklmnopqrstuvwxyz"
    return letters[number // 26] + letters[number % 26]


def lines_run(question):
    """How many lines are run until the question is answered: that hangs on no clock."""
    lines = 0

    def look(frame, event, argument):
        nonlocal lines
        lines += event == "line"
        return look

    before = sys.gettrace()
    sys.settrace(look)
    try:
        question()
    finally:
        sys.settrace(before)
    return lines


def small_hall(seed):
    """A hall with so few flows that all of them can be looked at."""
    chance = random.Random(seed)
    many = chance.randint(2, 5)
    passages = []
    flows = 1
    for _ in range(chance.randint(0, 8)):
        a, b = chance.sample(range(many), 2)
        width = chance.randint(1, 3)
        if flows * (width + 1) > 800:
            break
        flows *= width + 1
        passages.append((a, b, width, chance.randint(1, 5)))
    start, goal = chance.sample(range(many), 2)
    return many, passages, start, goal


def wide_hall(seed, widest, longest, many=40, number=60):
    """A hall with a long row of rooms from 0 to many - 1 and shorter and longer ways beside it."""
    chance = random.Random(seed)
    passages = []
    for room in range(many - 1):
        passages.append((room, room + 1, chance.randint(1, widest), chance.randint(1, longest)))
    while len(passages) < number:
        a = chance.randrange(many - 1)
        b = min(many - 1, a + chance.randint(1, 9))
        if chance.randrange(5) == 0:
            a, b = b, a
        passages.append((a, b, chance.randint(1, widest), chance.randint(1, longest)))
    chance.shuffle(passages)
    return many, passages, 0, many - 1


def thick_hall(seed, widest, longest, many):
    """A hall of sixty passages between few rooms."""
    chance = random.Random(seed)
    passages = []
    for _ in range(60):
        a, b = chance.sample(range(many), 2)
        passages.append((a, b, chance.randint(1, widest), chance.randint(1, longest)))
    return many, passages, 0, many - 1


def square_hall(seed, widest, unit):
    """Six rows of six rooms, sixty passages, all ways from corner to corner ten units long."""
    chance = random.Random(seed)
    passages = []
    for row in range(6):
        for column in range(6):
            room = 6 * row + column
            if column < 5:
                passages.append((room, room + 1, chance.randint(1, widest), unit))
            if row < 5:
                passages.append((room, room + 6, chance.randint(1, widest), unit))
    chance.shuffle(passages)
    return 36, passages, 0, 35


def counting_hall(levels, times=1):
    """A hall whose every push but the first takes something back: 2 ** levels steps.

    Level i is level i - 1 with a start and a goal around it. When all of level i - 1 is laid,
    it is taken back, way by way, by those who come in at its goal and leave it at its start.
    """
    passages = [(0, 1, times, 1)]
    for level in range(1, levels + 1):
        start, goal, inner_start, inner_goal = 2 * level, 2 * level + 1, 2 * level - 2, 2 * level - 1
        width = times * 2 ** (level - 1)
        across = 2 ** level - 1 + 2 * level
        passages.append((start, inner_start, width, 1))
        passages.append((inner_goal, goal, width, 1))
        passages.append((start, inner_goal, width, across))
        passages.append((inner_start, goal, width, across))
    return 2 * levels + 2, passages, 2 * levels, 2 * levels + 1


def counting_steps(levels, times=1):
    first = 2 * levels + 1
    return [(first + 2 * number, times) for number in range(2 ** levels)]


def balance(passages, room, flow):
    going = sum(number for passage, number in zip(passages, flow) if passage[0] == room)
    coming = sum(number for passage, number in zip(passages, flow) if passage[1] == room)
    return going - coming


def price(passages, flow):
    return sum(passage[3] * number for passage, number in zip(passages, flow))


def is_balanced(many, passages, start, goal, flow):
    return all(balance(passages, room, flow) == 0 for room in range(many) if room not in (start, goal))


def least_costs(many, passages, start, goal):
    """The least cost for each amount from 0 on, found by looking at every flow there is."""
    costs = {}
    for flow in itertools.product(*[range(passage[2] + 1) for passage in passages]):
        if is_balanced(many, passages, start, goal, flow):
            amount = balance(passages, start, flow)
            cost = price(passages, flow)
            if amount >= 0 and cost < costs.get(amount, cost + 1):
                costs[amount] = cost
    return costs


def steps_by_costs(costs):
    steps = []
    for amount in range(1, len(costs)):
        length = costs[amount] - costs[amount - 1]
        if steps and steps[-1][0] == length:
            steps[-1] = (length, steps[-1][1] + 1)
        else:
            steps.append((length, 1))
    return steps


def worth_by_steps(steps, turns):
    return sum((turns + 1 - length) * many for length, many in steps if length <= turns)


def has_ring(many, passages, flow):
    used = [passage for passage, number in zip(passages, flow) if number > 0]
    rooms = set(range(many))
    while rooms:
        ends = {room for room in rooms if not any(a == room and b in rooms for a, b, _, _ in used)}
        if not ends:
            return True
        rooms -= ends
    return False


def can_be_bettered(many, passages, start, goal, turns, flow):
    """Whether some change of the flow would raise its amount times (turns + 1) less its cost.

    That is so just where some ring of changes has a cost below 0; going back from goal to start
    stands for one more that comes through.
    """
    changes = [(goal, start, -(turns + 1))]
    if balance(passages, start, flow) > 0:
        changes.append((start, goal, turns + 1))
    for (a, b, width, length), number in zip(passages, flow):
        if number < width:
            changes.append((a, b, length))
        if number > 0:
            changes.append((b, a, -length))
    costs = [0] * many
    for _ in range(many + 1):
        changed = False
        for a, b, cost in changes:
            if costs[a] + cost < costs[b]:
                costs[b] = costs[a] + cost
                changed = True
        if not changed:
            return False
    return True


def walked(passages, walk):
    return sum(passages[number][3] for number in walk)


def bound(passages, moments):
    return sum(width * max(moments[b] - moments[a] - length, 0) for a, b, width, length in passages)


def rooms_from(passages, start):
    """The rooms that a way leads to from start, start among them."""
    rooms = [start]
    for room in rooms:
        rooms += {b for a, b, _, _ in passages if a == room and b not in rooms}
    return rooms


def spans_by_passage(passages, plan):
    """For each passage a list of (first, last, number): so many set out along it at each of these moments."""
    spans = [[] for _ in passages]
    for walk, number, first, last in plan:
        for passage in walk:
            spans[passage].append((first, last, number))
            first += passages[passage][3]
            last += passages[passage][3]
    return spans


def laid_by(passages, walks):
    """What lies on each passage, when walks are laid so many times."""
    flow = [0] * len(passages)
    for walk, many in walks:
        for number in walk:
            flow[number] += many
    return flow


def laid_hall(seed, greatest, many, number, times):
    """A hall whose passages never lead round in a ring, and a flow laid by so many walks by chance."""
    chance = random.Random(seed)
    rooms = chance.sample(range(many), many)
    ends = [(rooms[place], rooms[place + 1]) for place in range(many - 1)]
    while len(ends) < number:
        first, second = sorted(chance.sample(range(many), 2))
        ends.append((rooms[first], rooms[second]))
    chance.shuffle(ends)
    walks = []
    for _ in range(times):
        walk = []
        room = rooms[0]
        while room != rooms[-1]:
            walk.append(chance.choice([place for place, (a, b) in enumerate(ends) if a == room]))
            room = ends[walk[-1]][1]
        walks.append((walk, chance.randint(1, greatest)))
    flow = laid_by(ends, walks)
    passages = [(a, b, laid + chance.randint(1, 3), chance.randint(1, greatest)) for (a, b), laid in zip(ends, flow)]
    return passages, rooms[0], rooms[-1], flow


def plan_by_moments(passages, plan):
    """Goes through a plan moment by moment.

    Told are two dicts: how many set out, for (passage, moment), and how many come to the ends of
    their walks, for a moment.
    """
    going = collections.Counter()
    coming = collections.Counter()
    for walk, number, first, last in plan:
        for moment in range(first, last + 1):
            for passage in walk:
                going[passage, moment] += number
                moment += passages[passage][3]
            coming[moment] += number
    return going, coming


def most_by_moments(many, passages, start, goal, turns):
    """How many can come out, waiting or not: as many as can be sent through rooms at moments."""
    left = collections.Counter()
    ends = collections.defaultdict(set)
    arcs = [((room, moment), (room, moment + 1), GREATEST) for room in range(many) for moment in range(turns)]
    for a, b, width, length in passages:
        arcs += [((a, moment), (b, moment + length), width) for moment in range(turns - length + 1)]
    for one, other, width in arcs:
        left[one, other] += width
        ends[one].add(other)
        ends[other].add(one)
    people = 0
    while True:
        ahead = {(start, 0): None}
        queue = [(start, 0)]
        for one in queue:
            for other in ends[one]:
                if other not in ahead and left[one, other] > 0:
                    ahead[other] = one
                    queue.append(other)
        if (goal, turns) not in ahead:
            return people
        way = []
        other = (goal, turns)
        while ahead[other] is not None:
            way.append((ahead[other], other))
            other = ahead[other]
        pushed = min(left[arc] for arc in way)
        for one, other in way:
            left[one, other] -= pushed
            left[other, one] += pushed
        people += pushed


def crowd(many, passages, start, goal, turns, seed):
    """How many come out of a crowd that is let go moment by moment, some of whom wait by chance."""
    chance = random.Random(seed)
    eager = chance.choice((0.3, 0.7, 1))
    there = [collections.Counter() for _ in range(turns + 1)]
    for moment in range(turns + 1):
        if moment > 0:
            for room in range(many):
                there[moment][room] += there[moment - 1][room]
        there[moment][start] = GREATEST
        for a, b, width, length in chance.sample(passages, len(passages)):
            if a != goal and moment + length <= turns and chance.random() < eager:
                number = min(there[moment][a], width if eager == 1 else chance.randint(1, width))
                there[moment][a] -= number
                there[moment + length][b] += number
    return there[turns][goal]
