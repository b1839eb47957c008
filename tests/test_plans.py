import copy
import itertools
import random
import unittest

from leavehall.looks import come_out, most_at_once
from leavehall.plans import bound_of, out_within
from leavehall.pushes import steps_of
from tests import helper
from tests.helper import BARRED, GREATEST, LONG, SEVERAL_BEST, TimedTest

def plan_of(passages, walks, turns):
    return [(walk, number, 0, turns - helper.walked(passages, walk)) for walk, number in walks]


class PlanTest(TimedTest):
    def ask(self, many, passages, start, goal, turns):
        """What out_within tells, when all that point 10 says of it holds."""
        told = self.told(out_within, many, passages, start, goal, turns)
        self.assert_out(many, passages, start, goal, turns, told)
        self.assertEqual(bound_of(passages, told[2]), told[0])
        return told

    def people(self, many, passages, start, goal, turns):
        return self.ask(many, passages, start, goal, turns)[0]

    def several(self, hall, asked):
        return [self.people(*hall, turns) for turns in asked]

    def ask_around_the_steps(self, hall):
        steps = steps_of(*hall)
        asked = {0, 1, GREATEST}
        for length, _ in steps:
            asked.update((length - 2, length - 1, length, length + 1))
        for turns in sorted(asked):
            if 0 <= turns <= GREATEST:
                self.assertEqual(self.people(*hall, turns), helper.worth_by_steps(steps, turns))


class OutTest(PlanTest):
    def test_one_passage(self):
        for width in (1, 4):
            hall = (2, [(0, 1, width, 3)], 0, 1)
            self.assertEqual(self.several(hall, range(7)), [0, 0, 0, width, 2 * width, 3 * width, 4 * width])
            self.assertEqual(self.ask(*hall, 2), (0, [], [0, 3]))
            self.assertEqual(self.ask(*hall, 3), (width, [([0], width)], [0, 4]))
            self.assertEqual(self.ask(*hall, 9), (7 * width, [([0], width)], [0, 10]))

    def test_a_row(self):
        # All who come out are stopped by one passage: so a moment must tell which of them it is.
        for widths in itertools.permutations((2, 3, 4)):
            passages = [(0, 1, widths[0], 2), (1, 2, widths[1], 3), (2, 3, widths[2], 1)]
            self.assertEqual(self.several((4, passages, 0, 3), range(10)), [0] * 6 + [2, 4, 6, 8])

    def test_a_row_of_passages_alike(self):
        for many in range(2, 12):
            row = [(room, room + 1, 5, 2) for room in range(many - 1)]
            for turns in range(2 * many + 4):
                self.assertEqual(self.people(many, row, 0, many - 1, turns), 5 * max(0, turns - 2 * (many - 1) + 1))

    def test_two_ways(self):
        hall = (3, [(0, 1, 4, 1), (1, 2, 3, 1), (0, 2, 2, 5)], 0, 2)
        self.assertEqual(self.several(hall, range(8)), [0, 0, 3, 6, 9, 14, 19, 24])
        self.assertEqual(sorted(self.ask(*hall, 5)[1]), [([0, 1], 3), ([2], 2)])

    def test_taking_back(self):
        self.assertEqual(self.several(BARRED, range(9)), [0, 0, 0, 1, 2, 4, 6, 8, 10])
        self.assertEqual(self.ask(*BARRED, 3)[1], [([0, 1, 2], 1)])
        self.assertEqual(sorted(self.ask(*BARRED, 5)[1]), [([0, 4], 1), ([3, 2], 1)])

    def test_just_below_at_and_above_the_length_of_a_way(self):
        hall = (4, [(0, 1, 2, 3), (1, 3, 2, 4), (0, 2, 5, 6), (2, 3, 4, 7)], 0, 3)
        self.assertEqual(self.several(hall, (6, 7, 8)), [0, 2, 4])
        self.assertEqual(self.several(hall, (12, 13, 14)), [12, 18, 24])

    def test_nought_turns(self):
        for length in (1, 2, GREATEST):
            self.assertEqual(self.ask(2, [(0, 1, 5, length)], 0, 1, 0), (0, [], [0, 1]))
        for seed in range(60):
            hall = helper.small_hall(seed)
            self.assertEqual(self.ask(*hall, 0)[:2], (0, []))

    def test_no_passages(self):
        for turns in (0, 1, 7, GREATEST):
            self.assertEqual(self.ask(2, [], 0, 1, turns), (0, [], [0, turns + 1]))
            self.assertEqual(self.ask(2, [], 1, 0, turns), (0, [], [turns + 1, 0]))
            self.assertEqual(self.ask(40, [], 39, 0, turns)[:2], (0, []))

    def test_no_way(self):
        halls = ((2, [(1, 0, 5, 5)], 0, 1),
                 (4, [(0, 1, 5, 1), (2, 3, 5, 1), (2, 1, 1, 1), (3, 0, 1, 1)], 0, 3),
                 (4, [(0, 1, 5, 1), (1, 0, 5, 1), (0, 2, 5, 1), (3, 2, 5, 1)], 0, 3))
        for hall in halls:
            for turns in (0, 1, 2, 3, 50, GREATEST):
                self.assertEqual(self.ask(*hall, turns)[:2], (0, []))

    def test_rooms_that_no_way_leads_to(self):
        # Room 2 leads to goal, room 3 to the way to goal and to start; nobody is ever there.
        passages = [(0, 1, 4, 1), (2, 4, 9, 1), (1, 4, 3, 2), (3, 1, 9, 1), (3, 0, 9, 1), (3, 2, 9, 1), (2, 3, 9, 1)]
        self.assertEqual(self.several((6, passages, 0, 4), range(7)), [0, 0, 0, 3, 6, 9, 12])

    def test_rooms_from_which_none_leads_to_goal(self):
        passages = [(0, 2, 9, 1), (0, 1, 4, 1), (1, 3, 9, 1), (1, 4, 3, 2), (2, 3, 9, 1), (3, 2, 9, 1), (4, 3, 9, 2)]
        self.assertEqual(self.several((5, passages, 0, 4), range(7)), [0, 0, 0, 3, 6, 9, 12])

    def test_passages_into_start_and_out_of_goal(self):
        passages = [(1, 0, 9, 1), (0, 1, 4, 1), (2, 1, 9, 1), (1, 2, 3, 1), (2, 0, 9, 1), (0, 2, 2, 5)]
        self.assertEqual(self.several((3, passages, 0, 2), range(8)), [0, 0, 3, 6, 9, 14, 19, 24])
        self.assertEqual(self.several((3, passages, 2, 0), range(5)), [0, 9, 27, 45, 63])

    def test_passages_with_the_same_ends(self):
        hall = (2, [(0, 1, 2, 4), (0, 1, 3, 2), (0, 1, 3, 2), (1, 0, 3, 2)], 0, 1)
        self.assertEqual(self.several(hall, range(7)), [0, 0, 6, 12, 20, 28, 36])

    def test_somewhat_beyond_the_bounds(self):
        row = [(room, room + 1, 5, 2) for room in range(44)]
        self.assertEqual(self.several((45, row, 0, 44), (87, 88, 89)), [0, 5, 10])
        beside = [(0, 1, 1, length) for length in range(1, 71)]
        self.assertEqual(self.people(2, beside, 0, 1, 70), 70 * 71 // 2)
        self.assertEqual(self.people(2, [(0, 1, 3, 10 ** 60)], 0, 1, 10 ** 61), 3 * (9 * 10 ** 60 + 1))

    def test_by_every_flow_there_is(self):
        for seed in range(250):
            hall = helper.small_hall(seed)
            costs = helper.least_costs(*hall)
            for turns in range(18):
                most = max(amount * (turns + 1) - cost for amount, cost in costs.items())
                self.assertEqual(self.people(*hall, turns), most, (hall, turns))

    def test_halls_with_small_numbers(self):
        for seed in range(12):
            for hall in (helper.wide_hall(seed, 9, 9), helper.thick_hall(seed, 9, 9, 8),
                         helper.square_hall(seed, 9, 1), helper.thick_hall(seed, 1, 4, 20)):
                self.ask_around_the_steps(hall)


class MomentByMomentTest(PlanTest):
    def halls(self):
        for seed in range(60):
            yield helper.small_hall(seed)
            yield helper.wide_hall(seed, 3, 3, many=6, number=12)

    def test_no_crowd_brings_out_more(self):
        for hall in self.halls():
            for turns in (0, 2, 5, 8, 11):
                self.assertEqual(self.people(*hall, turns), helper.most_by_moments(*hall, turns), (hall, turns))

    def test_no_crowd_that_goes_and_waits_by_chance_brings_out_more(self):
        as_many = 0
        for hall in self.halls():
            for turns in (1, 4, 9, 15):
                people = self.people(*hall, turns)
                for chance in range(6):
                    out = helper.crowd(*hall, turns, chance)
                    self.assertLessEqual(out, people, (hall, turns))
                    as_many += out == people > 0
        self.assertGreaterEqual(as_many, 100)

    def test_the_walks_told_bring_out_as_many(self):
        for many, passages, start, goal in self.halls():
            for turns in (0, 1, 3, 6, 10, 15):
                people, walks, _ = self.ask(many, passages, start, goal, turns)
                going, coming = helper.plan_by_moments(passages, plan_of(passages, walks, turns))
                for (passage, moment), number in going.items():
                    self.assertLessEqual(number, passages[passage][2])
                    self.assertLessEqual(moment, turns)
                self.assertEqual(sum(coming.values()), people)
                self.assertLessEqual(max(coming, default=0), turns)

    def test_the_walks_told_looked_at_as_a_plan(self):
        for seed in range(6):
            for hall, asked in ((helper.wide_hall(seed, GREATEST, LONG), (0, LONG, 20 * LONG, GREATEST)),
                                (helper.thick_hall(seed, GREATEST, 9, 8), (0, 4, 9, 30, GREATEST)),
                                (helper.square_hall(seed, 9, 1), (0, 9, 10, 11, GREATEST))):
                many, passages, start, goal = hall
                for turns in asked:
                    people, walks, _ = self.ask(many, passages, start, goal, turns)
                    plan = plan_of(passages, walks, turns)
                    self.assertEqual(come_out(passages, plan, turns), people)
                    self.assertEqual(come_out(passages, plan, turns + GREATEST), people)
                    self.assertEqual(most_at_once(passages, plan), helper.laid_by(passages, walks))


class BoundTest(PlanTest):
    PASSAGES = [(0, 1, 4, 1), (1, 2, 30, 1), (0, 2, 200, 5), (2, 0, 1000, 2)]

    def bound(self, passages, moments):
        return self.whole(self.told(bound_of, passages, moments))

    def test_each_passage(self):
        self.assertEqual(self.bound([(0, 1, 7, 3)], [0, 3]), 0)
        self.assertEqual(self.bound([(0, 1, 7, 3)], [0, 4]), 7)
        self.assertEqual(self.bound([(0, 1, 7, 3)], [2, 10]), 35)
        self.assertEqual(self.bound([(1, 0, 7, 3)], [2, 10]), 0)
        self.assertEqual(self.bound([(1, 0, 7, 3)], [10, 2]), 35)

    def test_the_sum(self):
        self.assertEqual(self.bound(self.PASSAGES, [0, 0, 0]), 0)
        self.assertEqual(self.bound(self.PASSAGES, [0, 1, 6]), 30 * 4 + 200)
        self.assertEqual(self.bound(self.PASSAGES, [0, 5, 6]), 4 * 4 + 200)
        self.assertEqual(self.bound(self.PASSAGES, [0, 3, 6]), 4 * 2 + 30 * 2 + 200)
        self.assertEqual(self.bound(self.PASSAGES, [9, 3, 6]), 30 * 2 + 1000)

    def test_what_is_below_nought_takes_nothing_away(self):
        self.assertEqual(self.bound([(0, 1, 7, 3), (1, 0, 9, 1)], [0, 50]), 7 * 47)
        self.assertEqual(self.bound([(0, 1, 7, 3), (0, 1, 9, 100)], [0, 50]), 7 * 47)
        self.assertEqual(self.bound([(0, 1, 7, 3)], [50, 0]), 0)

    def test_below_nought(self):
        self.assertEqual(self.bound([(0, 1, 7, 3)], [-5, 0]), 14)
        self.assertEqual(self.bound([(0, 1, 7, 3)], [-5, -1]), 7)
        self.assertEqual(self.bound([(0, 1, 7, 3)], [-1, -5]), 0)
        self.assertEqual(self.bound(self.PASSAGES, [-9, -6, -3]), 4 * 2 + 30 * 2 + 200)

    def test_nothing(self):
        self.assertEqual(self.bound([], [0, 0]), 0)
        self.assertEqual(self.bound([], [-7, 100, 3]), 0)

    def test_sixty_figures(self):
        passages = [(0, 1, GREATEST, 1), (0, 1, 1, GREATEST), (1, 0, GREATEST, GREATEST)]
        self.assertEqual(self.bound(passages, [-GREATEST, GREATEST]), GREATEST * (2 * GREATEST - 1) + GREATEST)
        self.assertEqual(self.bound(passages, [GREATEST, -GREATEST]), GREATEST * GREATEST)
        self.assertEqual(self.bound([(0, 1, GREATEST, GREATEST - 1)] * 60, [0, GREATEST]), 60 * GREATEST)

    def test_any_moments(self):
        chance = random.Random(5)
        for seed in range(100):
            many, passages, _, _ = helper.small_hall(seed)
            moments = [chance.randint(-20, 20) for _ in range(many)]
            self.assertEqual(self.bound(passages, moments), helper.bound(passages, moments))

    def test_no_moments_show_less_than_comes_out(self):
        chance = random.Random(6)
        for seed in range(100):
            many, passages, start, goal = helper.small_hall(seed)
            for turns in (0, 4, 9):
                people = self.people(many, passages, start, goal, turns)
                for _ in range(10):
                    moments = [chance.randint(0, turns + 1) for _ in range(many)]
                    moments[start] = 0
                    moments[goal] = turns + 1
                    self.assertGreaterEqual(self.bound(passages, moments), people)


class MoreAndFewerTest(PlanTest):
    def halls(self):
        """Halls, and turns within which some come out of most of them."""
        for seed in range(60):
            yield helper.small_hall(seed), 3 + seed % 9
        for seed in range(4):
            yield helper.wide_hall(seed, 9, 3), 40
            yield helper.thick_hall(seed, 9, 9, 10), 25
            yield helper.thick_hall(seed, GREATEST, LONG, 10), LONG
            yield helper.square_hall(seed, 9, 1), 12

    def test_one_turn_more(self):
        for hall, turns in self.halls():
            people = self.several(hall, range(turns, turns + 5))
            self.assertEqual(people, sorted(people))

    def test_turns_from_nought_on(self):
        for seed in range(40):
            people = self.several(helper.small_hall(seed), range(25))
            self.assertEqual(people, sorted(people))

    def test_a_passage_more(self):
        chance = random.Random(7)
        more = 0
        for (many, passages, start, goal), turns in self.halls():
            people = self.people(many, passages, start, goal, turns)
            for _ in range(3):
                a, b = chance.sample(range(many), 2)
                laid = passages + [(a, b, chance.randint(1, 9), chance.randint(1, 5))]
                with_it = self.people(many, laid, start, goal, turns)
                self.assertGreaterEqual(with_it, people)
                more += with_it > people
        self.assertGreaterEqual(more, 10)

    def test_a_wider_passage(self):
        more = 0
        for (many, passages, start, goal), turns in self.halls():
            people = self.people(many, passages, start, goal, turns)
            for place, (a, b, width, length) in enumerate(passages[:12]):
                widened = passages[:place] + [(a, b, width + 1 + width // 2, length)] + passages[place + 1:]
                with_it = self.people(many, widened, start, goal, turns)
                self.assertGreaterEqual(with_it, people)
                more += with_it > people
        self.assertGreaterEqual(more, 10)

    def test_a_passage_left_out(self):
        fewer = 0
        for (many, passages, start, goal), turns in self.halls():
            people = self.people(many, passages, start, goal, turns)
            for place in range(min(12, len(passages))):
                without = self.people(many, passages[:place] + passages[place + 1:], start, goal, turns)
                self.assertLessEqual(without, people)
                fewer += without < people
        self.assertGreaterEqual(fewer, 10)

    def test_all_widths_so_many_times(self):
        for (many, passages, start, goal), turns in self.halls():
            people = self.people(many, passages, start, goal, turns)
            for times in (2, 3, 7, 10 ** 50):
                wider = [(a, b, times * width, length) for a, b, width, length in passages]
                self.assertEqual(self.people(many, wider, start, goal, turns), times * people)

    def test_another_order_of_passages(self):
        chance = random.Random(8)
        for (many, passages, start, goal), turns in self.halls():
            people = self.people(many, passages, start, goal, turns)
            for _ in range(3):
                mixed = chance.sample(passages, len(passages))
                self.assertEqual(self.people(many, mixed, start, goal, turns), people)

    def test_another_order_of_rooms(self):
        chance = random.Random(9)
        for (many, passages, start, goal), turns in self.halls():
            people = self.people(many, passages, start, goal, turns)
            for _ in range(3):
                rooms = chance.sample(range(many), many)
                mixed = [(rooms[a], rooms[b], width, length) for a, b, width, length in passages]
                self.assertEqual(self.people(many, mixed, rooms[start], rooms[goal], turns), people)


class GreatPlanTest(PlanTest):
    """With great numbers an answer must come as soon as with small ones."""

    def test_one_passage(self):
        self.assertEqual(self.people(2, [(0, 1, GREATEST, 1)], 0, 1, GREATEST), GREATEST * GREATEST)
        self.assertEqual(self.people(2, [(0, 1, GREATEST, GREATEST)], 0, 1, GREATEST), GREATEST)
        self.assertEqual(self.people(2, [(0, 1, GREATEST, GREATEST)], 0, 1, GREATEST - 1), 0)
        self.assertEqual(self.people(2, [(0, 1, 1, GREATEST - 1)], 0, 1, GREATEST), 2)

    def test_no_figure_is_lost(self):
        passages = [(0, 1, GREATEST, GREATEST - 2), (1, 2, GREATEST - 1, 1), (0, 2, 1, GREATEST)]
        self.assertEqual(self.people(3, passages, 0, 2, GREATEST), 2 * (GREATEST - 1) + 1)

    def test_sixty_passages_and_forty_rooms(self):
        for seed in range(6):
            self.ask_around_the_steps(helper.wide_hall(seed, GREATEST, LONG))
            self.ask_around_the_steps(helper.wide_hall(seed, GREATEST, GREATEST))
            self.ask_around_the_steps(helper.thick_hall(seed, GREATEST, LONG, 40))
            self.ask_around_the_steps(helper.thick_hall(seed, GREATEST, GREATEST, 8))
            self.ask_around_the_steps(helper.square_hall(seed, GREATEST, 10 ** 58))

    def test_great_widths_alone_lengths_alone_and_turns_alone(self):
        for seed in range(4):
            self.ask_around_the_steps(helper.thick_hall(seed, GREATEST, 9, 10))
            self.ask_around_the_steps(helper.thick_hall(seed, 9, LONG, 10))
            self.people(*helper.wide_hall(seed, 9, 9), GREATEST)

    def test_many_steps(self):
        for turns in (20, 21, 22, 900, 2066, 2067, 2068, GREATEST):
            for times in (1, 10 ** 56):
                hall = helper.counting_hall(10, times)
                self.assertEqual(self.people(*hall, turns),
                                 helper.worth_by_steps(helper.counting_steps(10, times), turns))

    def test_great_numbers_take_no_more_work(self):
        great = 10 ** 57
        for seed in range(6):
            for hall, turns in ((helper.wide_hall(seed, 9, 9), 150), (helper.thick_hall(seed, 9, 9, 12), 60),
                                (helper.square_hall(seed, 9, 1), 20)):
                many, passages, start, goal = hall
                greater = [(a, b, great * width, great * length) for a, b, width, length in passages]
                small = helper.lines_run(lambda: out_within(many, passages, start, goal, turns))
                lines = helper.lines_run(lambda: out_within(many, greater, start, goal, great * turns))
                self.assertLessEqual(lines, 2 * small)


class OwnPlanTest(PlanTest):
    def ask_all(self):
        return [out_within(*SEVERAL_BEST, turns) for turns in range(9)]

    def test_the_same_again(self):
        first = copy.deepcopy(self.ask_all())
        for seed in range(20):
            self.ask(*helper.small_hall(seed), seed)
            self.assertEqual(self.ask_all(), first)

    def test_what_is_told_is_the_askers_own(self):
        self.assert_own(self.ask_all)

    def test_a_list_changed_behind_is_asked_anew(self):
        passages = [(0, 1, 2, 3)]
        told = out_within(2, passages, 0, 1, 9)
        kept = copy.deepcopy(told)
        passages[0] = (0, 1, 5, 6)
        passages.append((0, 1, 1, 1))
        self.assertEqual(told, kept)
        self.assertEqual(told, (14, [([0], 2)], [0, 10]))
        self.assertEqual(self.people(2, passages, 0, 1, 9), 29)
        moments = [0, 10]
        self.assertEqual(bound_of(passages, moments), 29)
        moments[1] = 7
        self.assertEqual(bound_of(passages, moments), 11)
        passages.clear()
        self.assertEqual(self.people(2, passages, 0, 1, 9), 0)


if __name__ == "__main__":
    unittest.main()
