"""Named halls: rooms and passages with names, and deeds that change them."""

from leavehall.errors import NoHall, NoName, NoPassage, NoWidth, TooMany, Twice
from leavehall.fewest import fewest_turns
from leavehall.plans import out_within

LONGEST_NAME = 12
MOST_PASSAGES = 60
MOST_ROOMS = 40

START = 0
GOAL = 1


class NamedHall:
    # Both dicts stand in the order in which they are told. A room stays for good, so its number
    # does, and passages can be kept with the numbers of their rooms.
    def __init__(self, start, goal):
        look_at_name(start)
        look_at_name(goal)
        if start == goal:
            raise Twice("start and goal are the same room")
        self.numbers = {start: START, goal: GOAL}
        self.laid = {}

    def lay(self, name, a, b, width, length):
        look_at_name(name)
        look_at_name(a)
        look_at_name(b)
        if name in self.laid:
            raise Twice(f"there is a passage {name}")
        if a == b or width < 1 or length < 1:
            raise NoHall(None)
        added = [room for room in (a, b) if room not in self.numbers]
        if len(self.laid) + 1 > MOST_PASSAGES or len(self.numbers) + len(added) > MOST_ROOMS:
            raise TooMany(f"there is no place for passage {name}")
        for room in added:
            self.numbers[room] = len(self.numbers)
        self.laid[name] = (self.numbers[a], self.numbers[b], width, length)

    def shut(self, name):
        self.look_for(name)
        self.laid.pop(name)

    def widen(self, name, more):
        self.look_for(name)
        if more < 1:
            raise NoWidth(f"{more} is no number to widen by")
        self.change_width(name, more)

    def narrow(self, name, less):
        self.look_for(name)
        if less < 1 or self.laid[name][2] - less < 1:
            raise NoWidth(f"{less} is no number to narrow passage {name} by")
        self.change_width(name, -less)

    def look_for(self, name):
        if name not in self.laid:
            raise NoPassage(f"there is no passage {name}")

    def change_width(self, name, change):
        passage = self.laid[name]
        self.laid[name] = (passage[0], passage[1], passage[2] + change, passage[3])

    def rooms(self):
        return list(self.numbers)

    def passages(self):
        rooms = self.rooms()
        told = []
        for name, passage in self.laid.items():
            told.append((name, rooms[passage[0]], rooms[passage[1]], passage[2], passage[3]))
        return told

    def out(self, turns):
        told = self.out_by(self.laid, turns)
        walks = [(self.names_on(walk), number) for walk, number in told[1]]
        return told[0], walks, self.by_room(told[2])

    def turns_for(self, people):
        laid = list(self.laid.values())
        told = fewest_turns(len(self.numbers), laid, START, GOAL, people)
        if told is None:
            return None
        plan = [(self.names_on(walk), number, first, last) for walk, number, first, last in told[1]]
        return told[0], plan, self.by_room(told[2])

    def worth(self, name, turns):
        self.look_for(name)
        without = self.laid.copy()
        without.pop(name)
        return self.out_by(self.laid, turns)[0] - self.out_by(without, turns)[0]

    def out_by(self, laid, turns):
        return out_within(len(self.numbers), list(laid.values()), START, GOAL, turns)

    def names_on(self, walk):
        names = list(self.laid)
        return [names[number] for number in walk]

    def by_room(self, moments):
        return list(zip(self.rooms(), moments))


def look_at_name(name):
    if not 1 <= len(name) <= LONGEST_NAME or not all(["a" <= sign <= "z" for sign in name]):
        raise NoName(f"{name!r} is no name")
