import copy
import random
import unittest

from leavehall.fewest import fewest_turns
from leavehall.looks import come_out, most_at_once, set_out
from leavehall.plans import bound_of, out_within
from leavehall.pushes import steps_of
from tests import helper
from tests.helper import BARRED, GREATEST, LONG, SEVERAL_BEST, TimedTest

TWO_WAYS = (3, [(0, 1, 4, 1), (1, 2, 3, 1), (0, 2, 2, 5)], 0, 2)


class FewestTest(TimedTest):
    def ask(self, many, passages, start, goal, people):
        """What fewest_turns tells, when all that point 13 says of it holds."""
        told = self.told(fewest_turns, many, passages, start, goal, people)
        self.assert_fewest(many, passages, start, goal, people, told)
        if told is not None:
            turns, plan, moments = told
            self.assert_looks(passages, people, turns, plan)
            self.assertGreaterEqual(out_within(many, passages, start, goal, turns)[0], people)
            fewer = out_within(many, passages, start, goal, turns - 1)[0]
            self.assertLess(fewer, people)
            self.assertEqual(bound_of(passages, moments), fewer)
        return told

    def assert_looks(self, passages, people, turns, plan):
        widths = [passage[2] for passage in passages]
        for laid, width in zip(most_at_once(passages, plan), widths):
            self.assertLessEqual(laid, width)
        asked = {0, turns}
        for _, _, first, last in plan:
            asked.update((first, last, last + 1))
        for moment in asked:
            for number, width in zip(set_out(passages, plan, moment), widths):
                self.assertLessEqual(number, width)
        self.assertEqual(come_out(passages, plan, turns), people)
        self.assertEqual(come_out(passages, plan, turns + GREATEST), people)

    def turns(self, hall, people):
        return self.ask(*hall, people)[0]

    def several(self, hall, asked):
        return [self.turns(hall, people) for people in asked]

    def ask_around(self, hall, turns):
        """Asks for as many people as these turns bring out, one fewer and one more."""
        people = out_within(*hall, turns)[0]
        if people > 0:
            self.assertEqual(self.turns(hall, people), turns)
            self.assertEqual(self.turns(hall, people + 1), turns + 1)
        if people > 1:
            self.assertLessEqual(self.turns(hall, people - 1), turns)

    def ask_around_the_steps(self, hall):
        for length, _ in steps_of(*hall):
            for turns in (length - 1, length, length + 1, length + 2):
                self.ask_around(hall, turns)


class FewTest(FewestTest):
    def test_one_passage(self):
        hall = (2, [(0, 1, 4, 3)], 0, 1)
        self.assertEqual(self.several(hall, range(1, 14)), [3] * 4 + [4] * 4 + [5] * 4 + [6])
        self.assertEqual(self.ask(*hall, 4), (3, [([0], 4, 0, 0)], [0, 3]))
        self.assertEqual(self.ask(*hall, 12), (5, [([0], 4, 0, 2)], [0, 5]))

    def test_a_passage_of_width_one(self):
        hall = (2, [(0, 1, 1, 3)], 0, 1)
        self.assertEqual(self.several(hall, range(1, 9)), [3, 4, 5, 6, 7, 8, 9, 10])
        self.assertEqual(self.ask(*hall, 6), (8, [([0], 1, 0, 5)], [0, 8]))

    def test_one_person(self):
        self.assertEqual(self.ask(2, [(0, 1, 1, 1)], 0, 1, 1), (1, [([0], 1, 0, 0)], [0, 1]))
        self.assertEqual(self.ask(2, [(0, 1, 9, 7)], 0, 1, 1), (7, [([0], 1, 0, 0)], [0, 7]))
        self.assertEqual(self.ask(*TWO_WAYS, 1)[:2], (2, [([0, 1], 1, 0, 0)]))
        self.assertEqual(self.ask(2, [(1, 0, 5, GREATEST)], 1, 0, 1), (GREATEST, [([0], 1, 0, 0)], [GREATEST, 0]))

    def test_two_ways(self):
        # Within 0, 1, 2 .. turns 0, 0, 3, 6, 9, 14, 19, 24 come out.
        self.assertEqual(self.several(TWO_WAYS, range(1, 26)),
                         [2] * 3 + [3] * 3 + [4] * 3 + [5] * 5 + [6] * 5 + [7] * 5 + [8])

    def test_taking_back(self):
        self.assertEqual(self.several(BARRED, range(1, 12)), [3, 4, 5, 5, 6, 6, 7, 7, 8, 8, 9])

    def test_a_longer_way_only_where_it_is_needed(self):
        passages = [(0, 1, 5, 2), (0, 1, 100, 50)]
        self.assertEqual(self.several((2, passages, 0, 1), (5, 240, 241, 345, 346, 450)), [2, 49, 50, 50, 51, 51])

    def test_ways_alike(self):
        hall = (2, [(0, 1, 2, 4), (0, 1, 3, 4), (0, 1, 5, 4)], 0, 1)
        self.assertEqual(self.several(hall, (1, 9, 10, 11, 20, 21)), [4, 4, 4, 5, 5, 6])

    def test_start_and_goal_the_other_way_round(self):
        passages = [(1, 0, 9, 1), (0, 1, 4, 1), (2, 1, 9, 1), (1, 2, 3, 1), (2, 0, 9, 1), (0, 2, 2, 5)]
        self.assertEqual(self.several((3, passages, 0, 2), (3, 4, 9, 10, 14, 15)), [2, 3, 4, 5, 5, 6])
        self.assertEqual(self.several((3, passages, 2, 0), (1, 9, 10, 27, 28)), [1, 1, 2, 2, 3])

    def test_just_as_many_one_fewer_and_one_more(self):
        for hall in (TWO_WAYS, BARRED):
            for turns in range(30):
                self.ask_around(hall, turns)
        for seed in range(40):
            for turns in range(0, 30, 4):
                self.ask_around(helper.small_hall(seed), turns)

    def test_halls_with_small_numbers(self):
        for seed in range(6):
            for hall in (helper.wide_hall(seed, 9, 9), helper.thick_hall(seed, 9, 9, 8),
                         helper.square_hall(seed, 9, 1), helper.thick_hall(seed, 1, 4, 20)):
                self.ask_around_the_steps(hall)

    def test_somewhat_beyond_the_bounds(self):
        row = [(room, room + 1, 5, 2) for room in range(44)]
        self.assertEqual(self.several((45, row, 0, 44), (1, 5, 6)), [88, 88, 89])
        beside = [(0, 1, 1, length) for length in range(1, 71)]
        self.assertEqual(self.turns((2, beside, 0, 1), 70 * 71 // 2), 70)
        self.assertEqual(self.turns((2, [(0, 1, 3, 10 ** 60)], 0, 1), 10 ** 61), 10 ** 60 + (10 ** 61 - 1) // 3)


class NeverTest(FewestTest):
    HALLS = (
        (2, [], 0, 1),
        (40, [], 39, 0),
        (2, [(1, 0, 5, 5)], 0, 1),
        (3, [(1, 0, 5, 1), (2, 1, 5, 1), (2, 0, 5, 1)], 0, 2),
        (4, [(0, 1, 5, 1), (2, 3, 5, 1), (2, 1, 1, 1), (3, 0, 1, 1)], 0, 3),
        (4, [(0, 1, 5, 1), (1, 0, 5, 1), (0, 2, 5, 1), (3, 2, 5, 1)], 0, 3),
    )

    def test_no_way(self):
        for hall in self.HALLS:
            for people in (1, 2, 50, GREATEST):
                self.assertIsNone(self.ask(*hall, people))

    def test_none_just_where_no_way_leads(self):
        never = 0
        for seed in range(200):
            many, passages, start, goal = helper.small_hall(seed)
            told = self.ask(many, passages, start, goal, 1 + seed % 5)
            self.assertEqual(told is None, goal not in helper.rooms_from(passages, start))
            never += told is None
        self.assertGreaterEqual(never, 20)
        self.assertLessEqual(never, 180)

    def test_a_way_as_soon_as_it_is_laid(self):
        for many, passages, start, goal in self.HALLS:
            self.assertEqual(self.turns((many, passages + [(start, goal, 1, 9)], start, goal), 1), 9)


class TurnByTurnTest(FewestTest):
    def halls(self):
        for seed in range(40):
            yield helper.small_hall(seed)
            yield helper.wide_hall(seed, 3, 3, many=6, number=12)
        yield TWO_WAYS
        yield BARRED

    def hold(self, hall, most, longest):
        """Holds the answer for each number of people against one number of turns after the other."""
        people = 1
        for turns in range(longest):
            out = most(turns)
            while people <= out:
                self.assertEqual(self.turns(hall, people), turns, (hall, people))
                people += 1 + people // 5

    def test_by_crowds(self):
        for hall in self.halls():
            self.hold(hall, lambda turns: helper.most_by_moments(*hall, turns), 14)

    def test_by_what_comes_out(self):
        for hall in self.halls():
            self.hold(hall, lambda turns: out_within(*hall, turns)[0], 40)

    def test_plans_gone_through_moment_by_moment(self):
        for many, passages, start, goal in self.halls():
            for people in (1, 2, 3, 5, 8, 13, 21, 34):
                told = self.ask(many, passages, start, goal, people)
                if told is not None:
                    going, coming = helper.plan_by_moments(passages, told[1])
                    for (passage, _), number in going.items():
                        self.assertLessEqual(number, passages[passage][2])
                    self.assertEqual(sum(coming.values()), people)
                    self.assertLessEqual(max(coming), told[0])


class GreatFewestTest(FewestTest):
    """With great numbers an answer must come as soon as with small ones."""

    def test_one_passage(self):
        self.assertEqual(self.turns((2, [(0, 1, 1, 1)], 0, 1), GREATEST), GREATEST)
        self.assertEqual(self.turns((2, [(0, 1, 1, GREATEST)], 0, 1), GREATEST), 2 * GREATEST - 1)
        self.assertEqual(self.turns((2, [(0, 1, GREATEST, GREATEST)], 0, 1), GREATEST), GREATEST)
        self.assertEqual(self.turns((2, [(0, 1, GREATEST - 1, GREATEST)], 0, 1), GREATEST), GREATEST + 1)
        self.assertEqual(self.turns((2, [(0, 1, GREATEST, 5)], 0, 1), GREATEST * GREATEST + 1), GREATEST + 5)

    def test_no_figure_is_lost(self):
        hall = (3, [(0, 1, GREATEST, GREATEST - 2), (1, 2, GREATEST - 1, 1), (0, 2, 1, GREATEST)], 0, 2)
        self.assertEqual(self.several(hall, (1, GREATEST - 1, GREATEST)), [GREATEST - 1, GREATEST - 1, GREATEST])
        many = 2 * (GREATEST - 1) + 1
        self.assertEqual(self.several(hall, (many - 1, many, many + 1)), [GREATEST, GREATEST, GREATEST + 1])

    def test_sixty_passages_and_forty_rooms(self):
        for seed in range(6):
            for hall in (helper.wide_hall(seed, GREATEST, LONG), helper.wide_hall(seed, GREATEST, GREATEST),
                         helper.thick_hall(seed, GREATEST, LONG, 40), helper.thick_hall(seed, GREATEST, GREATEST, 8),
                         helper.square_hall(seed, GREATEST, 10 ** 58)):
                self.ask_around_the_steps(hall)
                for people in (1, 2, 10 ** 30, GREATEST - 1, GREATEST):
                    self.ask(*hall, people)

    def test_great_widths_alone_lengths_alone_and_people_alone(self):
        for seed in range(6):
            for hall in (helper.thick_hall(seed, GREATEST, 9, 10), helper.thick_hall(seed, 9, LONG, 10),
                         helper.wide_hall(seed, 9, 9), helper.square_hall(seed, 1, 1)):
                for people in (1, 7, 1000, 10 ** 30, GREATEST):
                    self.ask(*hall, people)

    def test_many_steps(self):
        for times in (1, 10 ** 56):
            hall = helper.counting_hall(9, times)
            for turns in (19, 20, 21, 400, 1040, 1041, 1042, 10 ** 58):
                self.ask_around(hall, turns)
            for people in (1, 10 ** 9, GREATEST):
                self.ask(*hall, people)

    def test_great_numbers_take_no_more_work(self):
        great = 10 ** 57
        for seed in range(6):
            for hall in (helper.wide_hall(seed, 9, 9), helper.thick_hall(seed, 9, 9, 12),
                         helper.square_hall(seed, 9, 1)):
                many, passages, start, goal = hall
                greater = [(a, b, great * width, great * length) for a, b, width, length in passages]
                for people in (1, 100, 5000):
                    small = helper.lines_run(lambda: fewest_turns(many, passages, start, goal, people))
                    lines = helper.lines_run(lambda: fewest_turns(many, greater, start, goal, great * great * people))
                    self.assertLessEqual(lines, 2 * small + 100)


class MoreAndFewerTest(FewestTest):
    def halls(self):
        for seed in range(25):
            yield helper.small_hall(seed), 20
        for seed in range(3):
            yield helper.wide_hall(seed, 9, 3), 500
            yield helper.thick_hall(seed, 9, 9, 10), 500
            yield helper.thick_hall(seed, GREATEST, LONG, 10), GREATEST
            yield helper.square_hall(seed, 9, 1), 300

    def test_another_order_of_passages(self):
        chance = random.Random(1)
        for (many, passages, start, goal), people in self.halls():
            told = self.ask(many, passages, start, goal, people)
            for _ in range(3):
                mixed = self.ask(many, chance.sample(passages, len(passages)), start, goal, people)
                self.assertEqual(mixed and mixed[0], told and told[0])

    def test_a_passage_more(self):
        chance = random.Random(2)
        sooner = 0
        for (many, passages, start, goal), people in self.halls():
            told = self.ask(many, passages, start, goal, people)
            for _ in range(3):
                a, b = chance.sample(range(many), 2)
                more = passages + [(a, b, chance.randint(1, 9), chance.randint(1, 5))]
                laid = self.ask(many, more, start, goal, people)
                if told is not None:
                    self.assertLessEqual(laid[0], told[0])
                    sooner += laid[0] < told[0]
        self.assertGreaterEqual(sooner, 10)

    def test_more_people(self):
        for hall, people in self.halls():
            if self.ask(*hall, people) is not None:
                turns = self.several(hall, (1, people // 2, people - 1, people, people + 1, 3 * people))
                self.assertEqual(turns, sorted(turns))


class OwnFewestTest(FewestTest):
    def ask_all(self):
        return [fewest_turns(*SEVERAL_BEST, people) for people in range(1, 40)]

    def test_the_same_again(self):
        first = copy.deepcopy(self.ask_all())
        for seed in range(20):
            self.ask(*helper.small_hall(seed), 1 + seed)
            self.assertEqual(self.ask_all(), first)

    def test_what_is_told_is_the_askers_own(self):
        self.assert_own(self.ask_all)

    def test_each_walk_of_a_plan_is_a_list_of_its_own(self):
        for _, plan, _ in self.ask_all() + [fewest_turns(2, [(0, 1, 4, 3)], 0, 1, 11)]:
            for place in range(len(plan)):
                others = copy.deepcopy(plan[:place] + plan[place + 1:])
                plan[place][0].append(7)
                self.assertEqual(plan[:place] + plan[place + 1:], others)

    def test_a_list_changed_behind_is_asked_anew(self):
        passages = [(0, 1, 2, 3)]
        told = fewest_turns(2, passages, 0, 1, 5)
        passages[0] = (0, 1, 5, 6)
        passages.append((0, 1, 1, 1))
        self.assertEqual(told[0], 5)
        self.assertEqual(told[2], [0, 5])
        self.assertEqual(self.turns((2, passages, 0, 1), 5), 5)
        self.assertEqual(self.turns((2, passages, 0, 1), 7), 6)
        passages.clear()
        self.assertIsNone(self.ask(2, passages, 0, 1, 5))

    def test_what_was_told_is_handed_in_again(self):
        for hall in (SEVERAL_BEST, helper.thick_hall(3, GREATEST, LONG, 10), helper.square_hall(3, GREATEST, LONG)):
            people = out_within(*hall, GREATEST)[0]
            self.assertEqual(self.turns(hall, people), GREATEST)
            self.assertEqual(self.turns(hall, people + 1), GREATEST + 1)


if __name__ == "__main__":
    unittest.main()
