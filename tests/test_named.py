import copy
import itertools
import random
import unittest

from leavehall.errors import HallError, NoHall, NoName, NoPassage, NoWidth, TooMany, Twice
from leavehall.fewest import fewest_turns
from leavehall.named import NamedHall
from leavehall.plans import out_within
from tests import helper
from tests.helper import GREATEST, LONG, SEVERAL_BEST, TimedTest, name_of

NO_NAMES = ("", "abcdefghijklm", "A", "aB", "Ab", "abC", "1", "a1", "1a", " ", "a b", " a", "a ", "-", "a-b", "a_b",
            "_", ".", "a.", "`", "{", "@", "[", "~", "a" * 2000)
NAMES = ("a", "z", "az", "abcdefghijkl", "nopqrstuvwxy", "zzzzzzzzzzzz", "none", "never", "lay")


def filled(many, passages, start, goal):
    """A named hall with these passages; a room that has none is not named."""
    hall = NamedHall(name_of(start), name_of(goal))
    for number, (a, b, width, length) in enumerate(passages):
        hall.lay(name_of(number), name_of(a), name_of(b), width, length)
    return hall


def crowded(rooms):
    """A named hall of so many rooms, most of them with a passage to door that is called like the room."""
    hall = NamedHall("in", "door")
    for number in range(rooms - 2):
        hall.lay(name_of(number), name_of(number), "door", 1, 1)
    return hall


def full():
    """A named hall of sixty passages between two rooms."""
    hall = NamedHall("in", "door")
    for number in range(60):
        hall.lay(name_of(number), "in", "door", 1, 1 + number)
    return hall


def two_ways():
    hall = NamedHall("in", "door")
    hall.lay("first", "in", "mid", 4, 1)
    hall.lay("second", "mid", "door", 3, 1)
    hall.lay("round", "in", "door", 2, 5)
    return hall


class NamedTest(TimedTest):
    def assert_kept(self, hall, error, deed, *handed):
        """Refused, and behind it all is as it was."""
        kept = self.all_told(hall)
        self.assert_refused(error, deed, *handed)
        self.assertEqual(self.all_told(hall), kept)

    def all_told(self, hall):
        rooms = hall.rooms()
        passages = hall.passages()
        worths = [hall.worth(passage[0], 6) for passage in passages[:5]]
        return copy.deepcopy((rooms, passages, hall.out(6), hall.turns_for(9), worths))

    def assert_there(self, hall, rooms, passages):
        self.assertEqual(hall.rooms(), rooms)
        self.assertEqual(hall.passages(), passages)
        self.assertIs(type(hall.rooms()), list)
        self.assertIs(type(hall.passages()), list)
        for passage in hall.passages():
            self.assertIs(type(passage), tuple)

    def numbered(self, hall):
        rooms = hall.rooms()
        return (len(rooms), [(rooms.index(a), rooms.index(b), width, length)
                             for _, a, b, width, length in hall.passages()], 0, 1)

    def without_names(self, hall, told):
        """What out or turns_for tells, by numbers in the place of names."""
        if told is None:
            return None
        self.assertIs(type(told), tuple)
        many, walks, moments = told
        names = [passage[0] for passage in hall.passages()]
        self.assertIs(type(walks), list)
        numbered = []
        for walk in walks:
            self.assertIs(type(walk), tuple)
            self.assertIs(type(walk[0]), list)
            numbered.append(([names.index(name) for name in walk[0]],) + walk[1:])
        self.assertIs(type(moments), list)
        for pair in moments:
            self.assertIs(type(pair), tuple)
        self.assertEqual([room for room, _ in moments], hall.rooms())
        return many, numbered, [moment for _, moment in moments]

    def out(self, hall, turns):
        """What out tells, when all that points 10 and 15 say of it holds."""
        told = hall.out(turns)
        self.assert_out(*self.numbered(hall), turns, self.without_names(hall, told))
        self.assertEqual(hall.out(turns), told)
        return told

    def turns_for(self, hall, people):
        """What turns_for tells, when all that points 13 and 15 say of it holds."""
        told = hall.turns_for(people)
        self.assert_fewest(*self.numbered(hall), people, self.without_names(hall, told))
        self.assertEqual(hall.turns_for(people), told)
        return told

    def worth(self, hall, name, turns):
        """What worth tells, when the hall without the passage, laid anew, brings out so many fewer."""
        worth = self.whole(hall.worth(name, turns))
        many, passages, start, goal = self.numbered(hall)
        place = [passage[0] for passage in hall.passages()].index(name)
        without = out_within(many, passages[:place] + passages[place + 1:], start, goal, turns)[0]
        self.assertEqual(worth, hall.out(turns)[0] - without)
        self.assertGreaterEqual(worth, 0)
        self.assertEqual(hall.worth(name, turns), worth)
        return worth


class MakeTest(NamedTest):
    def test_names(self):
        for start, goal in itertools.permutations(NAMES, 2):
            self.assert_there(NamedHall(start, goal), [start, goal], [])

    def test_each_letter(self):
        for letter in "abcdefghijklmnopqrstuvwxyz":
            self.assertEqual(NamedHall(letter, letter * 12).rooms(), [letter, letter * 12])

    def test_no_name(self):
        for wrong in NO_NAMES:
            self.assert_refused(NoName, NamedHall, wrong, "goal")
            self.assert_refused(NoName, NamedHall, "start", wrong)
            self.assert_refused(NoName, NamedHall, wrong, "A")

    def test_each_sign_that_is_no_small_letter(self):
        for number in range(32, 127):
            sign = chr(number)
            if sign not in "abcdefghijklmnopqrstuvwxyz":
                for wrong in (sign, "a" + sign, sign + "a", "a" + sign + "a"):
                    self.assert_refused(NoName, NamedHall, wrong, "goal")
                    self.assert_refused(NoName, NamedHall, "start", wrong)

    def test_twice(self):
        for name in NAMES:
            self.assert_refused(Twice, NamedHall, name, name)

    def test_no_name_ahead_of_twice(self):
        for wrong in NO_NAMES:
            self.assert_refused(NoName, NamedHall, wrong, wrong)

    def test_nothing_is_laid_yet(self):
        hall = NamedHall("in", "door")
        self.assertEqual(self.out(hall, 5), (0, [], [("in", 0), ("door", 6)]))
        self.assertIsNone(self.turns_for(hall, 1))
        self.assert_refused(NoPassage, hall.worth, "in", 5)


class LayTest(NamedTest):
    def test_a_passage(self):
        hall = NamedHall("in", "door")
        self.assertIsNone(hall.lay("p", "in", "door", 4, 3))
        self.assert_there(hall, ["in", "door"], [("p", "in", "door", 4, 3)])
        self.assertEqual(self.out(hall, 4), (8, [(["p"], 4)], [("in", 0), ("door", 5)]))
        self.assertEqual(self.turns_for(hall, 8), (4, [(["p"], 4, 0, 1)], [("in", 0), ("door", 4)]))

    def test_rooms_in_the_order_in_which_they_are_named(self):
        hall = NamedHall("z", "y")
        hall.lay("p", "x", "w", 1, 1)
        hall.lay("q", "v", "x", 1, 1)
        hall.lay("r", "z", "u", 1, 1)
        hall.lay("s", "a", "y", 1, 1)
        hall.lay("t", "w", "b", 1, 1)
        self.assertEqual(hall.rooms(), ["z", "y", "x", "w", "v", "u", "a", "b"])

    def test_a_passage_called_as_a_room_is(self):
        hall = NamedHall("in", "door")
        hall.lay("in", "in", "mid", 2, 1)
        hall.lay("mid", "mid", "door", 2, 1)
        hall.lay("door", "door", "new", 2, 1)
        hall.lay("new", "new", "in", 2, 1)
        self.assertEqual(hall.rooms(), ["in", "door", "mid", "new"])
        self.assertEqual(self.out(hall, 2)[:2], (2, [(["in", "mid"], 2)]))

    def test_a_room_called_as_a_passage_is(self):
        hall = NamedHall("in", "door")
        hall.lay("p", "in", "mid", 2, 1)
        hall.lay("q", "mid", "p", 2, 1)
        hall.lay("r", "p", "door", 2, 1)
        self.assertEqual(hall.rooms(), ["in", "door", "mid", "p"])

    def test_passages_between_the_same_rooms(self):
        hall = NamedHall("in", "door")
        hall.lay("p", "in", "door", 2, 3)
        hall.lay("q", "in", "door", 2, 3)
        hall.lay("r", "door", "in", 2, 3)
        self.assert_there(hall, ["in", "door"], [("p", "in", "door", 2, 3), ("q", "in", "door", 2, 3),
                                                 ("r", "door", "in", 2, 3)])
        self.assertEqual(self.out(hall, 4)[0], 8)

    def test_names(self):
        hall = NamedHall("in", "door")
        for name, a, b in zip(NAMES, NAMES[1:], NAMES[2:]):
            self.assertIsNone(hall.lay(name, a, b, 1, 1))
        self.assertEqual(len(hall.passages()), len(NAMES) - 2)

    def test_no_name(self):
        hall = two_ways()
        for wrong in NO_NAMES:
            self.assert_kept(hall, NoName, hall.lay, wrong, "in", "door", 1, 1)
            self.assert_kept(hall, NoName, hall.lay, "p", wrong, "door", 1, 1)
            self.assert_kept(hall, NoName, hall.lay, "p", "in", wrong, 1, 1)

    def test_twice(self):
        hall = two_ways()
        for name in ("first", "second", "round"):
            self.assert_kept(hall, Twice, hall.lay, name, "in", "door", 1, 1)
            self.assert_kept(hall, Twice, hall.lay, name, "other", "rooms", 1, 1)

    def test_no_hall(self):
        hall = two_ways()
        self.assert_kept(hall, NoHall, hall.lay, "p", "in", "in", 1, 1)
        self.assert_kept(hall, NoHall, hall.lay, "p", "new", "new", 1, 1)
        for wrong in (0, -1, -GREATEST):
            self.assert_kept(hall, NoHall, hall.lay, "p", "in", "new", wrong, 1)
            self.assert_kept(hall, NoHall, hall.lay, "p", "new", "door", 1, wrong)
            self.assert_kept(hall, NoHall, hall.lay, "p", "new", "newer", wrong, wrong)

    def test_sixty_passages_and_one_more(self):
        hall = full()
        self.assertEqual(len(hall.passages()), 60)
        self.assert_kept(hall, TooMany, hall.lay, "p", "in", "door", 1, 1)
        self.assert_kept(hall, TooMany, hall.lay, "p", "in", "new", 1, 1)
        hall.shut(name_of(7))
        hall.lay("p", "in", "door", 1, 1)
        self.assert_kept(hall, TooMany, hall.lay, "q", "in", "door", 1, 1)
        self.assertEqual(len(hall.passages()), 60)

    def test_forty_rooms_and_one_more(self):
        hall = crowded(40)
        self.assertEqual(len(hall.rooms()), 40)
        self.assert_kept(hall, TooMany, hall.lay, "p", "in", "new", 1, 1)
        self.assert_kept(hall, TooMany, hall.lay, "p", "new", "in", 1, 1)
        self.assert_kept(hall, TooMany, hall.lay, "p", "new", "newer", 1, 1)
        hall.lay("p", "in", name_of(0), 1, 1)
        # A room stays, though nothing leads to it or from it.
        hall.shut(name_of(20))
        self.assert_kept(hall, TooMany, hall.lay, "q", "in", "new", 1, 1)
        hall.lay("q", "in", name_of(20), 1, 1)
        self.assertEqual(len(hall.rooms()), 40)

    def test_two_new_rooms_where_there_is_place_for_one(self):
        hall = crowded(39)
        self.assertEqual(len(hall.rooms()), 39)
        self.assert_kept(hall, TooMany, hall.lay, "p", "new", "newer", 1, 1)
        hall.lay("p", "new", "door", 1, 1)
        self.assertEqual(hall.rooms()[-1], "new")
        self.assertEqual(len(hall.rooms()), 40)

    def test_two_new_rooms_where_there_is_place_for_two(self):
        hall = crowded(38)
        hall.lay("p", "new", "newer", 1, 1)
        self.assertEqual(hall.rooms()[-2:], ["new", "newer"])
        self.assertEqual(len(hall.rooms()), 40)

    def test_what_is_refused_first(self):
        hall = full()
        laid = name_of(3)
        for a, b, width, length in itertools.product(("A", "in"), ("B", "in", "door", "new"), (0, 1), (0, 1)):
            self.assert_kept(hall, NoName, hall.lay, "P", a, b, width, length)
            wrong_hall = a == b or width < 1 or length < 1
            wrong_name = a == "A" or b == "B"
            self.assert_kept(hall, NoName if wrong_name else Twice, hall.lay, laid, a, b, width, length)
            self.assert_kept(hall, NoName if wrong_name else NoHall if wrong_hall else TooMany,
                             hall.lay, "p", a, b, width, length)

    def test_no_hall_ahead_of_too_many_rooms(self):
        hall = crowded(40)
        self.assert_kept(hall, NoHall, hall.lay, "p", "new", "new", 1, 1)
        self.assert_kept(hall, NoHall, hall.lay, "p", "in", "new", 0, 1)
        self.assert_kept(hall, NoHall, hall.lay, "p", "in", "new", 1, 0)
        self.assert_kept(hall, Twice, hall.lay, name_of(0), "in", "new", 1, 0)

    def test_what_is_refused_names_no_room(self):
        hall = NamedHall("in", "door")
        hall.lay("p", "in", "door", 1, 1)
        for error, handed in ((NoName, ("P", "x", "y", 1, 1)), (NoName, ("q", "x", "Y", 1, 1)),
                              (Twice, ("p", "x", "y", 1, 1)), (NoHall, ("q", "x", "x", 1, 1)),
                              (NoHall, ("q", "x", "y", 0, 1)), (NoHall, ("q", "x", "y", 1, 0))):
            self.assert_kept(hall, error, hall.lay, *handed)
            self.assertEqual(hall.rooms(), ["in", "door"])
        hall.lay("q", "y", "x", 1, 1)
        self.assertEqual(hall.rooms(), ["in", "door", "y", "x"])


class ShutTest(NamedTest):
    def test_a_passage_fewer(self):
        hall = two_ways()
        self.assertIsNone(hall.shut("second"))
        self.assert_there(hall, ["in", "door", "mid"], [("first", "in", "mid", 4, 1), ("round", "in", "door", 2, 5)])
        self.assertEqual(self.out(hall, 5)[:2], (2, [(["round"], 2)]))

    def test_no_passage(self):
        hall = two_ways()
        for name in ("third", "in", "mid", "door", "firs", "firstt", "First", "", "a b"):
            self.assert_kept(hall, NoPassage, hall.shut, name)

    def test_shut_twice(self):
        hall = two_ways()
        hall.shut("first")
        self.assert_kept(hall, NoPassage, hall.shut, "first")

    def test_laid_again_it_stands_last(self):
        hall = two_ways()
        hall.shut("first")
        hall.lay("first", "mid", "in", 9, 9)
        self.assert_there(hall, ["in", "door", "mid"], [("second", "mid", "door", 3, 1), ("round", "in", "door", 2, 5),
                                                        ("first", "mid", "in", 9, 9)])

    def test_rooms_stay(self):
        hall = two_ways()
        for name in ("first", "second", "round"):
            hall.shut(name)
        self.assert_there(hall, ["in", "door", "mid"], [])
        many, walks, moments = self.out(hall, 9)
        self.assertEqual((many, walks), (0, []))
        self.assertEqual([room for room, _ in moments], ["in", "door", "mid"])
        self.assertIsNone(self.turns_for(hall, 1))
        hall.lay("first", "in", "other", 1, 1)
        self.assertEqual(hall.rooms(), ["in", "door", "mid", "other"])


class WidthTest(NamedTest):
    def width(self, hall, name):
        return [passage[3] for passage in hall.passages() if passage[0] == name][0]

    def test_wider(self):
        hall = two_ways()
        self.assertIsNone(hall.widen("second", 1))
        self.assert_there(hall, ["in", "door", "mid"], [("first", "in", "mid", 4, 1), ("second", "mid", "door", 4, 1),
                                                        ("round", "in", "door", 2, 5)])
        self.assertEqual(self.out(hall, 5)[0], 18)
        hall.widen("second", GREATEST)
        self.assertEqual(self.width(hall, "second"), GREATEST + 4)

    def test_narrower(self):
        hall = two_ways()
        self.assertIsNone(hall.narrow("first", 2))
        self.assert_there(hall, ["in", "door", "mid"], [("first", "in", "mid", 2, 1), ("second", "mid", "door", 3, 1),
                                                        ("round", "in", "door", 2, 5)])
        self.assertEqual(self.out(hall, 5)[0], 10)

    def test_just_one_is_left(self):
        hall = two_ways()
        self.assertIsNone(hall.narrow("first", 3))
        self.assertEqual(self.width(hall, "first"), 1)
        for less in (1, 2, GREATEST):
            self.assert_kept(hall, NoWidth, hall.narrow, "first", less)
        hall.widen("first", 1)
        hall.narrow("first", 1)
        self.assertEqual(self.width(hall, "first"), 1)

    def test_less_than_one_is_left(self):
        hall = two_ways()
        for less in (4, 5, 6, GREATEST):
            self.assert_kept(hall, NoWidth, hall.narrow, "first", less)

    def test_no_width(self):
        hall = two_ways()
        for wrong in (0, -1, -2, -GREATEST):
            self.assert_kept(hall, NoWidth, hall.widen, "first", wrong)
            self.assert_kept(hall, NoWidth, hall.narrow, "first", wrong)

    def test_no_passage_ahead_of_no_width(self):
        hall = two_ways()
        for name in ("third", "in", "mid", "", "FIRST"):
            for number in (1, 0, -1, GREATEST):
                self.assert_kept(hall, NoPassage, hall.widen, name, number)
                self.assert_kept(hall, NoPassage, hall.narrow, name, number)

    def test_laid_again_with_a_width_of_its_own(self):
        hall = two_ways()
        hall.widen("first", 50)
        hall.shut("first")
        self.assert_kept(hall, NoPassage, hall.widen, "first", 1)
        hall.lay("first", "in", "mid", 3, 1)
        self.assertEqual(self.width(hall, "first"), 3)

    def test_sixty_figures(self):
        hall = NamedHall("in", "door")
        hall.lay("p", "in", "door", GREATEST, GREATEST)
        hall.narrow("p", GREATEST - 1)
        self.assertEqual(hall.passages(), [("p", "in", "door", 1, GREATEST)])
        hall.widen("p", GREATEST - 1)
        self.assertEqual(hall.passages(), [("p", "in", "door", GREATEST, GREATEST)])
        self.assert_kept(hall, NoWidth, hall.narrow, "p", GREATEST)


class AskTest(NamedTest):
    def test_two_ways(self):
        hall = two_ways()
        self.assertEqual([self.out(hall, turns)[0] for turns in range(8)], [0, 0, 3, 6, 9, 14, 19, 24])
        many, walks, moments = self.out(hall, 5)
        self.assertEqual(sorted(walks), [(["first", "second"], 3), (["round"], 2)])
        self.assertEqual(moments[:2], [("in", 0), ("door", 6)])
        self.assertEqual([self.turns_for(hall, people)[0] for people in (1, 3, 4, 9, 10, 14, 15)],
                         [2, 2, 3, 4, 5, 5, 6])

    def test_the_same_as_by_numbers(self):
        for seed in range(30):
            many, passages, start, goal = helper.small_hall(seed)
            hall = filled(many, passages, start, goal)
            for turns in (0, 3, 7, 12):
                self.assertEqual(self.out(hall, turns)[0], out_within(many, passages, start, goal, turns)[0])
            for people in (1, 4, 30):
                fewest = fewest_turns(many, passages, start, goal, people)
                told = self.turns_for(hall, people)
                self.assertEqual(told and told[0], fewest and fewest[0])

    def test_never(self):
        hall = NamedHall("in", "door")
        hall.lay("p", "door", "in", 1, 1)
        hall.lay("q", "in", "mid", 1, 1)
        hall.lay("r", "door", "mid", 1, 1)
        for people in (1, 2, GREATEST):
            self.assertIsNone(self.turns_for(hall, people))
        hall.lay("s", "mid", "door", 1, 1)
        self.assertEqual(self.turns_for(hall, 1)[0], 2)

    def test_halls_stand_alone(self):
        one = two_ways()
        other = two_ways()
        kept = self.all_told(one)
        other.lay("p", "in", "new", 1, 1)
        other.shut("first")
        other.widen("round", 5)
        self.assertEqual(self.all_told(one), kept)
        self.assertEqual(NamedHall("in", "door").rooms(), ["in", "door"])

    def test_told_between_two_deeds_the_same(self):
        hall = filled(*SEVERAL_BEST)
        kept = self.all_told(hall)
        for turns in range(9):
            self.out(hall, turns)
            self.turns_for(hall, 1 + turns)
            self.worth(hall, name_of(turns), turns)
            self.assertEqual(self.all_told(hall), kept)

    def test_what_is_told_is_the_askers_own(self):
        for hall in (two_ways(), filled(*SEVERAL_BEST)):
            self.assert_own(lambda: (hall.rooms(), hall.passages(), hall.out(6), hall.turns_for(9)))
            self.assert_own(lambda: [hall.out(turns) for turns in range(9)])
            self.assert_own(lambda: [hall.turns_for(people) for people in range(1, 30)])

    def test_deeds_change_nothing_that_was_told(self):
        hall = two_ways()
        told = (hall.rooms(), hall.passages(), hall.out(6), hall.turns_for(9))
        kept = copy.deepcopy(told)
        hall.lay("p", "in", "new", 1, 1)
        hall.shut("first")
        hall.widen("round", 5)
        hall.narrow("second", 1)
        self.all_told(hall)
        self.assertEqual(told, kept)

    def test_each_walk_of_a_plan_is_a_list_of_its_own(self):
        hall = two_ways()
        for people in range(1, 40):
            plan = hall.turns_for(people)[1]
            others = copy.deepcopy(plan[1:])
            plan[0][0].append("new")
            self.assertEqual(plan[1:], others)


class WorthTest(NamedTest):
    def test_two_ways(self):
        hall = two_ways()
        self.assertEqual([hall.worth("round", turns) for turns in range(8)], [0, 0, 0, 0, 0, 2, 4, 6])
        self.assertEqual([hall.worth("first", turns) for turns in range(8)], [0, 0, 3, 6, 9, 12, 15, 18])
        self.assertEqual([hall.worth("second", turns) for turns in range(8)], [0, 0, 3, 6, 9, 12, 15, 18])

    def test_no_passage(self):
        hall = two_ways()
        for name in ("third", "in", "mid", "", "FIRST"):
            for turns in (0, 1, 9, GREATEST):
                self.assert_kept(hall, NoPassage, hall.worth, name, turns)
        hall.shut("first")
        self.assert_kept(hall, NoPassage, hall.worth, "first", 9)

    def test_a_passage_that_is_of_no_use(self):
        hall = two_ways()
        hall.lay("back", "door", "in", 9, 1)
        hall.lay("blind", "mid", "cellar", 9, 1)
        for turns in (0, 1, 2, 5, 9, GREATEST):
            self.assertEqual(hall.worth("back", turns), 0)
            self.assertEqual(hall.worth("blind", turns), 0)

    def test_the_only_passage(self):
        hall = NamedHall("in", "door")
        hall.lay("p", "in", "door", GREATEST, 2)
        self.assertEqual([hall.worth("p", turns) for turns in (0, 1, 2, 3)], [0, 0, GREATEST, 2 * GREATEST])

    def test_one_of_two_alike(self):
        hall = NamedHall("in", "door")
        hall.lay("p", "in", "mid", 3, 1)
        hall.lay("q", "in", "mid", 3, 1)
        hall.lay("r", "mid", "door", 4, 1)
        self.assertEqual([hall.worth(name, 2) for name in ("p", "q", "r")], [1, 1, 4])

    def test_with_it_less_without_it(self):
        worths = 0
        for seed in range(20):
            many, passages, start, goal = helper.small_hall(seed)
            hall = filled(many, passages, start, goal)
            kept = self.all_told(hall)
            for number in range(len(passages)):
                for turns in (0, 2, 5, 9):
                    worths += self.worth(hall, name_of(number), turns) > 0
            self.assertEqual(self.all_told(hall), kept)
        self.assertGreaterEqual(worths, 20)

    def test_as_many_fewer_once_it_is_shut(self):
        for seed in range(20):
            many, passages, start, goal = helper.small_hall(seed)
            for number in range(len(passages)):
                hall = filled(many, passages, start, goal)
                with_it = hall.out(8)[0]
                worth = hall.worth(name_of(number), 8)
                hall.shut(name_of(number))
                self.assertEqual(worth, with_it - hall.out(8)[0])


class Model:
    """A named hall kept in the plainest way; each deed tells the error that it is to be refused with, or None."""

    def __init__(self, start, goal):
        self.rooms = [start, goal]
        self.passages = []

    def place(self, name):
        names = [passage[0] for passage in self.passages]
        return names.index(name) if name in names else None

    def lay(self, name, a, b, width, length):
        if name in NO_NAMES or a in NO_NAMES or b in NO_NAMES:
            return NoName
        if self.place(name) is not None:
            return Twice
        if a == b or width < 1 or length < 1:
            return NoHall
        if len(self.passages) == 60 or len({*self.rooms, a, b}) > 40:
            return TooMany
        for room in (a, b):
            if room not in self.rooms:
                self.rooms.append(room)
        self.passages.append((name, a, b, width, length))
        return None

    def shut(self, name):
        if self.place(name) is None:
            return NoPassage
        self.passages.pop(self.place(name))
        return None

    def widen(self, name, more):
        if self.place(name) is None:
            return NoPassage
        return NoWidth if more < 1 else self.change(name, more)

    def narrow(self, name, less):
        place = self.place(name)
        if place is None:
            return NoPassage
        return NoWidth if less < 1 or less >= self.passages[place][3] else self.change(name, -less)

    def change(self, name, more):
        place = self.place(name)
        _, a, b, width, length = self.passages[place]
        self.passages[place] = (name, a, b, width + more, length)


class DeedsTest(NamedTest):
    def deed(self, chance, names, rooms, greatest):
        name = chance.choice(NO_NAMES) if chance.random() < 0.04 else chance.choice(names)
        number = chance.randint(-1, 0) if chance.random() < 0.1 else chance.randint(1, greatest)
        what = chance.choice(("lay", "lay", "lay", "shut", "widen", "narrow"))
        if what == "lay":
            a = chance.choice(NO_NAMES) if chance.random() < 0.04 else chance.choice(rooms)
            b = chance.choice(NO_NAMES) if chance.random() < 0.04 else chance.choice(rooms)
            return what, (name, a, b, number, chance.randint(0, greatest))
        return what, (name,) if what == "shut" else (name, number)

    def go(self, seed, names, rooms, greatest, times):
        """Deeds by chance on a hall and its model; told is how often each error was the answer."""
        chance = random.Random(seed)
        hall = NamedHall(rooms[0], rooms[1])
        model = Model(rooms[0], rooms[1])
        errors = []
        for _ in range(times):
            what, handed = self.deed(chance, names, rooms, greatest)
            error = getattr(model, what)(*handed)
            errors.append(error)
            if error is None:
                self.assertIsNone(getattr(hall, what)(*handed))
            else:
                self.assert_refused(error, getattr(hall, what), *handed)
            self.assert_there(hall, model.rooms, model.passages)
            if chance.random() < 0.2:
                self.assert_asked(chance, hall, greatest)
        return errors

    def assert_asked(self, chance, hall, greatest):
        self.out(hall, chance.randint(0, 8 * greatest))
        self.turns_for(hall, chance.randint(1, 8 * greatest))
        if hall.passages():
            self.worth(hall, chance.choice(hall.passages())[0], chance.randint(0, 8 * greatest))

    def test_few_names(self):
        errors = []
        for seed in range(12):
            errors += self.go(seed, NAMES, NAMES[:5], 9, 150)
        for error in (None, NoName, Twice, NoHall, NoPassage, NoWidth):
            self.assertGreaterEqual(errors.count(error), 20)

    def test_great_numbers(self):
        for seed in range(6):
            self.go(seed, NAMES, NAMES[:5], LONG, 100)

    def test_many_names(self):
        errors = []
        for seed in range(3):
            names = [name_of(number) for number in range(200)]
            rooms = [name_of(number) for number in range(50 if seed else 20)]
            errors += self.go(seed, names, rooms, 9, 300)
        self.assertGreaterEqual(errors.count(TooMany), 20)

    def test_laying_and_widening_never_fewer_shutting_and_narrowing_never_more(self):
        chance = random.Random(3)
        changed = 0
        for _ in range(12):
            hall = NamedHall(NAMES[0], NAMES[1])
            out = 0
            for _ in range(80):
                what, handed = self.deed(chance, NAMES, NAMES[:3], 9)
                try:
                    getattr(hall, what)(*handed)
                except HallError:
                    pass
                more = hall.out(12)[0]
                changed += more != out
                if what in ("lay", "widen"):
                    self.assertGreaterEqual(more, out)
                else:
                    self.assertLessEqual(more, out)
                out = more
                self.assertGreaterEqual(hall.out(13)[0], out)
        self.assertGreaterEqual(changed, 40)


class GreatNamedTest(NamedTest):
    """With great numbers an answer must come as soon as with small ones."""

    def test_sixty_passages_and_forty_rooms(self):
        for seed in range(3):
            for hall in (filled(*helper.wide_hall(seed, GREATEST, LONG)),
                         filled(*helper.thick_hall(seed, GREATEST, GREATEST, 12)),
                         filled(*helper.square_hall(seed, GREATEST, 10 ** 58))):
                self.assertEqual(len(hall.passages()), 60)
                for turns in (0, 1, LONG, 30 * LONG, GREATEST):
                    self.out(hall, turns)
                    self.worth(hall, name_of(turns % 60), turns)
                for people in (1, 10 ** 30, GREATEST):
                    self.turns_for(hall, people)

    def test_great_numbers_take_no_more_work(self):
        great = 10 ** 57
        for seed in range(3):
            for many, passages, start, goal in (helper.wide_hall(seed, 9, 9), helper.thick_hall(seed, 9, 9, 12)):
                greater = [(a, b, great * width, great * length) for a, b, width, length in passages]
                small = filled(many, passages, start, goal)
                large = filled(many, greater, start, goal)
                for one, other in ((lambda: small.out(99), lambda: large.out(99 * great)),
                                   (lambda: small.turns_for(99), lambda: large.turns_for(99 * great * great)),
                                   (lambda: small.worth("ac", 99), lambda: large.worth("ac", 99 * great)),
                                   (lambda: small.widen("ac", 99), lambda: large.widen("ac", 99 * great)),
                                   (lambda: small.narrow("ac", 99), lambda: large.narrow("ac", 99 * great))):
                    self.assertLessEqual(helper.lines_run(other), 2 * helper.lines_run(one) + 100)


if __name__ == "__main__":
    unittest.main()
