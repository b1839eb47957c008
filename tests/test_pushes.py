import copy
import itertools
import unittest

from leavehall.pushes import amount_of, best_flow, cost_of, steps_of
from tests import helper
from tests.helper import GREATEST, LONG, TimedTest

# Both ways through a and b are short, but each alone bars the other one's way: the second push
# takes the passage from a to b back.
BARRED = (4, [(0, 1, 1, 1), (1, 2, 1, 1), (2, 3, 1, 1), (0, 2, 1, 3), (1, 3, 1, 3)], 0, 3)


class PushTest(TimedTest):
    def steps(self, many, passages, start, goal):
        before = list(passages)
        steps = steps_of(many, passages, start, goal)
        self.assertEqual(passages, before)
        self.assertIs(type(steps), list)
        for step in steps:
            self.assertIs(type(step), tuple)
            self.assertEqual(len(step), 2)
            self.assertGreaterEqual(self.whole(step[0]), 1)
            self.assertGreaterEqual(self.whole(step[1]), 1)
        lengths = [length for length, _ in steps]
        self.assertTrue(all(lengths[k] < lengths[k + 1] for k in range(len(lengths) - 1)), lengths)
        return steps

    def flow(self, many, passages, start, goal, turns):
        before = list(passages)
        flow = best_flow(many, passages, start, goal, turns)
        self.assertEqual(passages, before)
        self.assertIs(type(flow), list)
        self.assertEqual(len(flow), len(passages))
        for number, passage in zip(flow, passages):
            self.assertGreaterEqual(self.whole(number), 0)
            self.assertLessEqual(number, passage[2])
        self.assertTrue(helper.is_balanced(many, passages, start, goal, flow), flow)
        self.assertFalse(helper.has_ring(many, passages, flow), flow)
        return flow

    def worth(self, many, passages, start, goal, turns):
        flow = self.flow(many, passages, start, goal, turns)
        amount = helper.balance(passages, start, flow)
        return amount * (turns + 1) - helper.price(passages, flow)

    def assert_best(self, hall, steps, turns):
        many, passages, start, goal = hall
        flow = self.flow(many, passages, start, goal, turns)
        amount = helper.balance(passages, start, flow)
        worth = amount * (turns + 1) - helper.price(passages, flow)
        self.assertFalse(helper.can_be_bettered(many, passages, start, goal, turns, flow))
        self.assertEqual(worth, helper.worth_by_steps(steps, turns))
        self.assertGreaterEqual(amount, sum(number for length, number in steps if length <= turns))
        self.assertLessEqual(amount, sum(number for length, number in steps if length <= turns + 1))

    def assert_held_together(self, hall):
        # What a flow can be worth is a line with a bend at each length of a step and nowhere
        # else: so looking just ahead of, at and behind each bend shows that the steps are right.
        steps = self.steps(*hall)
        lengths = [length for length, _ in steps]
        asked = {0, GREATEST}
        for length in lengths:
            asked.update((length - 2, length - 1, length, length + 1))
        for turns in sorted(asked):
            if 0 <= turns <= GREATEST:
                self.assert_best(hall, steps, turns)
        return steps


class AmountTest(PushTest):
    PASSAGES = [(0, 1, 5, 2), (1, 2, 5, 3), (0, 2, 5, 10), (2, 0, 5, 1), (1, 0, 5, 7), (0, 1, 9, 4)]

    def amount(self, passages, start, flow):
        kept_passages = list(passages)
        kept_flow = list(flow)
        amount = self.whole(amount_of(passages, start, flow))
        self.assertEqual((passages, flow), (kept_passages, kept_flow))
        return amount

    def test_what_goes_less_what_comes(self):
        self.assertEqual(self.amount(self.PASSAGES, 0, [3, 3, 2, 0, 0, 0]), 5)
        self.assertEqual(self.amount(self.PASSAGES, 0, [3, 3, 2, 1, 0, 0]), 4)
        self.assertEqual(self.amount(self.PASSAGES, 0, [3, 1, 2, 1, 4, 2]), 2)
        self.assertEqual(self.amount(self.PASSAGES, 0, [0, 0, 0, 5, 0, 0]), -5)

    def test_each_passage_alone(self):
        expected = {0: [1, 0, 1, -1, -1, 1], 1: [-1, 1, 0, 0, 1, -1], 2: [0, -1, -1, 1, 0, 0], 3: [0] * 6}
        for room in range(4):
            for number in range(6):
                flow = [0] * 6
                flow[number] = 8
                self.assertEqual(self.amount(self.PASSAGES, room, flow), 8 * expected[room][number])

    def test_any_room_in_the_place_of_start(self):
        flow = [3, 1, 2, 1, 4, 2]
        self.assertEqual(self.amount(self.PASSAGES, 1, flow), 1 + 4 - 3 - 2)
        self.assertEqual(self.amount(self.PASSAGES, 2, flow), 1 - 1 - 2)
        self.assertEqual(self.amount(self.PASSAGES, 3, flow), 0)
        self.assertEqual(self.amount(self.PASSAGES, 39, flow), 0)

    def test_goal_has_the_amount_below_nought(self):
        for seed in range(30):
            many, passages, start, goal = helper.small_hall(seed)
            flow = best_flow(many, passages, start, goal, 20)
            self.assertEqual(self.amount(passages, goal, flow), -self.amount(passages, start, flow))
            for room in range(many):
                if room not in (start, goal):
                    self.assertEqual(self.amount(passages, room, flow), 0)

    def test_lists_that_are_no_flows(self):
        self.assertEqual(self.amount(self.PASSAGES, 0, [-3, 100, 0, -4, 0, 1]), 2)
        self.assertEqual(self.amount(self.PASSAGES, 2, [-3, 100, 0, -4, 0, 1]), -104)
        self.assertEqual(self.amount(self.PASSAGES, 0, [1000, 0, 0, 0, 0, 0]), 1000)

    def test_nothing(self):
        self.assertEqual(self.amount([], 0, []), 0)
        self.assertEqual(self.amount(self.PASSAGES, 0, [0] * 6), 0)

    def test_sixty_figures(self):
        self.assertEqual(self.amount([(0, 1, GREATEST, 1)] * 60, 0, [GREATEST] * 60), 60 * GREATEST)
        self.assertEqual(self.amount([(0, 1, GREATEST, 1)] * 60, 1, [GREATEST] * 60), -60 * GREATEST)
        self.assertEqual(self.amount([(0, 1, 9, 1), (1, 0, 9, 1)], 0, [GREATEST, GREATEST - 1]), 1)


class CostTest(PushTest):
    PASSAGES = [(0, 1, 5, 2), (1, 2, 5, 3), (0, 2, 5, 10), (2, 0, 5, 1)]

    def cost(self, passages, flow):
        kept_passages = list(passages)
        kept_flow = list(flow)
        cost = self.whole(cost_of(passages, flow))
        self.assertEqual((passages, flow), (kept_passages, kept_flow))
        return cost

    def test_numbers_times_lengths(self):
        self.assertEqual(self.cost(self.PASSAGES, [3, 3, 2, 0]), 35)
        self.assertEqual(self.cost(self.PASSAGES, [1, 1, 0, 1]), 6)
        self.assertEqual([self.cost(self.PASSAGES, [int(k == n) for k in range(4)]) for n in range(4)], [2, 3, 10, 1])

    def test_lists_that_are_no_flows(self):
        self.assertEqual(self.cost(self.PASSAGES, [-3, 100, 0, -4]), 290)
        self.assertEqual(self.cost(self.PASSAGES, [0, 0, 0, -7]), -7)

    def test_nothing(self):
        self.assertEqual(self.cost([], []), 0)
        self.assertEqual(self.cost(self.PASSAGES, [0] * 4), 0)

    def test_sixty_figures(self):
        self.assertEqual(self.cost([(0, 1, 1, GREATEST)] * 60, [GREATEST] * 60), 60 * GREATEST * GREATEST)
        self.assertEqual(self.cost([(0, 1, 1, GREATEST)] * 2, [GREATEST, 1 - GREATEST]), GREATEST)


class StepsTest(PushTest):
    def test_one_way(self):
        self.assertEqual(self.steps(2, [(0, 1, 4, 7)], 0, 1), [(7, 4)])
        self.assertEqual(self.steps(2, [(1, 0, 4, 7)], 1, 0), [(7, 4)])
        self.assertEqual(self.steps(3, [(0, 1, 4, 7), (1, 2, 3, 2)], 0, 2), [(9, 3)])
        self.assertEqual(self.steps(3, [(2, 0, 4, 7), (1, 2, 6, 2)], 1, 0), [(9, 4)])

    def test_several_ways(self):
        hall = (3, [(0, 1, 4, 1), (1, 2, 3, 1), (0, 2, 2, 5)], 0, 2)
        self.assertEqual(self.steps(*hall), [(2, 3), (5, 2)])

    def test_passages_with_the_same_ends(self):
        self.assertEqual(self.steps(2, [(0, 1, 2, 9), (0, 1, 3, 4)], 0, 1), [(4, 3), (9, 2)])
        self.assertEqual(self.steps(3, [(0, 1, 1, 5), (0, 1, 1, 2), (1, 2, 3, 1), (0, 1, 4, 8)], 0, 2),
                         [(3, 1), (6, 1), (9, 1)])

    def test_lengths_alike_make_one_step(self):
        self.assertEqual(self.steps(2, [(0, 1, 2, 3), (0, 1, 5, 3)], 0, 1), [(3, 7)])
        self.assertEqual(self.steps(2, [(0, 1, 2, 3), (0, 1, 2, 3), (0, 1, 1, 2), (0, 1, 1, 4)], 0, 1),
                         [(2, 1), (3, 4), (4, 1)])
        self.assertEqual(self.steps(3, [(0, 1, 2, 3), (1, 2, 9, 3), (0, 2, 4, 6)], 0, 2), [(6, 6)])

    def test_taking_back(self):
        self.assertEqual(self.steps(*BARRED), [(3, 1), (5, 1)])
        wider = [(a, b, 10 * width, length) for a, b, width, length in BARRED[1]]
        self.assertEqual(self.steps(4, wider, 0, 3), [(3, 10), (5, 10)])

    def test_taking_back_in_part(self):
        passages = [(0, 1, 5, 1), (1, 2, 3, 1), (2, 3, 5, 1), (0, 2, 4, 3), (1, 3, 6, 3)]
        self.assertEqual(self.steps(4, passages, 0, 3), [(3, 3), (4, 4), (5, 2)])

    def test_taking_back_again_and_again(self):
        for levels in range(8):
            for times in (1, 3, 10 ** 57):
                self.assertEqual(self.steps(*helper.counting_hall(levels, times)), helper.counting_steps(levels, times))

    def test_no_way(self):
        self.assertEqual(self.steps(2, [], 0, 1), [])
        self.assertEqual(self.steps(40, [], 0, 39), [])
        self.assertEqual(self.steps(2, [(1, 0, 5, 5)], 0, 1), [])
        self.assertEqual(self.steps(4, [(0, 1, 5, 5), (2, 3, 5, 5), (2, 1, 1, 1), (3, 0, 1, 1)], 0, 3), [])

    def test_passages_back_to_start_and_away_from_goal(self):
        passages = [(1, 0, 9, 1), (0, 1, 4, 1), (2, 1, 9, 1), (1, 2, 3, 1), (2, 0, 9, 1), (0, 2, 2, 5)]
        self.assertEqual(self.steps(3, passages, 0, 2), [(2, 3), (5, 2)])
        self.assertEqual(self.steps(3, passages, 2, 0), [(1, 9), (2, 9)])
        self.assertEqual(self.steps(3, passages, 2, 1), [(1, 9), (2, 4)])

    def test_rooms_and_passages_aside(self):
        passages = [(4, 5, 9, 1), (5, 4, 9, 1), (0, 3, 2, 2), (0, 1, 1, 1), (1, 4, 1, 1)]
        self.assertEqual(self.steps(7, passages, 0, 3), [(2, 2)])

    def test_by_every_flow_there_is(self):
        bends = 0
        for seed in range(250):
            hall = helper.small_hall(seed)
            costs = helper.least_costs(*hall)
            steps = self.steps(*hall)
            self.assertEqual(steps, helper.steps_by_costs(costs), hall)
            self.assertEqual(sum(number for _, number in steps), max(costs))
            bends = max(bends, len(steps))
        self.assertGreaterEqual(bends, 3)

    def test_somewhat_beyond_the_bounds(self):
        row = [(room, room + 1, 5, 2) for room in range(44)]
        self.assertEqual(self.steps(45, row, 0, 44), [(88, 5)])
        self.assertEqual(self.flow(45, row, 0, 44, 90), [5] * 44)
        beside = [(0, 1, 1, length) for length in range(1, 71)]
        self.assertEqual(self.steps(2, beside, 0, 1), [(length, 1) for length in range(1, 71)])
        self.assertEqual(self.flow(2, beside, 0, 1, 99), [1] * 70)

    def test_the_order_of_passages_does_not_matter(self):
        for passages in itertools.permutations(BARRED[1]):
            self.assertEqual(self.steps(4, list(passages), 0, 3), [(3, 1), (5, 1)])


class BestTest(PushTest):
    def test_no_passages(self):
        for turns in (0, 1, GREATEST):
            self.assertEqual(self.flow(2, [], 0, 1, turns), [])
            self.assertEqual(self.flow(40, [], 39, 0, turns), [])

    def test_no_way(self):
        for turns in (0, 1, 100, GREATEST):
            self.assertEqual(self.flow(2, [(1, 0, 5, 5)], 0, 1, turns), [0])
            self.assertEqual(self.flow(4, [(0, 1, 5, 5), (2, 3, 5, 5), (3, 2, 5, 5)], 0, 3, turns), [0, 0, 0])

    def test_nought_turns(self):
        # One that is 1 long makes neither better nor worse; nothing longer may be laid.
        self.assertEqual(self.flow(2, [(0, 1, 5, 2)], 0, 1, 0), [0])
        self.assertEqual(self.worth(2, [(0, 1, 5, 1)], 0, 1, 0), 0)
        self.assertEqual(self.flow(3, [(0, 1, 5, 1), (1, 2, 5, 1)], 0, 2, 0), [0, 0])

    def test_around_the_length_of_a_step(self):
        passages = [(0, 1, 4, 7)]
        for turns in range(6):
            self.assertEqual(self.flow(2, passages, 0, 1, turns), [0])
        self.assertEqual(self.worth(2, passages, 0, 1, 6), 0)
        for turns in (7, 8, 9, 100, GREATEST):
            self.assertEqual(self.flow(2, passages, 0, 1, turns), [4])
            self.assertEqual(self.worth(2, passages, 0, 1, turns), 4 * (turns - 6))

    def test_around_the_lengths_of_two_steps(self):
        hall = (3, [(0, 1, 4, 1), (1, 2, 3, 1), (0, 2, 2, 5)], 0, 2)
        self.assertEqual(self.flow(*hall, 0), [0, 0, 0])
        for turns in (2, 3):
            self.assertEqual(self.flow(*hall, turns), [3, 3, 0])
        for turns in (5, 6, 50):
            self.assertEqual(self.flow(*hall, turns), [3, 3, 2])
        self.assertEqual([self.worth(*hall, turns) for turns in range(8)], [0, 0, 3, 6, 9, 14, 19, 24])

    def test_taking_back(self):
        self.assertEqual(self.flow(*BARRED, 3), [1, 1, 1, 0, 0])
        for turns in (5, 6, 7, GREATEST):
            self.assertEqual(self.flow(*BARRED, turns), [1, 0, 1, 1, 1])
        self.assertEqual([self.worth(*BARRED, turns) for turns in range(8)], [0, 0, 0, 1, 2, 4, 6, 8])

    def test_by_every_flow_there_is(self):
        for seed in range(250):
            hall = helper.small_hall(seed)
            costs = helper.least_costs(*hall)
            steps = self.steps(*hall)
            for turns in range(18):
                most = max(amount * (turns + 1) - cost for amount, cost in costs.items())
                self.assertEqual(self.worth(*hall, turns), most, (hall, turns))
                self.assert_best(hall, steps, turns)

    def test_amount_and_cost_tell_the_same(self):
        for seed in range(60):
            many, passages, start, goal = helper.small_hall(seed)
            for turns in (0, 3, 6, 30):
                flow = best_flow(many, passages, start, goal, turns)
                self.assertEqual(amount_of(passages, start, flow), helper.balance(passages, start, flow))
                self.assertEqual(cost_of(passages, flow), helper.price(passages, flow))

    def test_halls_with_small_numbers(self):
        longest = 0
        for seed in range(12):
            for hall in (helper.wide_hall(seed, 9, 9), helper.thick_hall(seed, 9, 9, 8), helper.square_hall(seed, 9, 1)):
                longest = max(longest, len(self.assert_held_together(hall)))
        self.assertGreaterEqual(longest, 5)


class GreatTest(PushTest):
    """With great numbers an answer must come as soon as with small ones."""

    def test_one_passage(self):
        self.assertEqual(self.steps(2, [(0, 1, GREATEST, GREATEST)], 0, 1), [(GREATEST, GREATEST)])
        self.assertEqual(self.flow(2, [(0, 1, GREATEST, GREATEST)], 0, 1, GREATEST), [GREATEST])
        self.assertEqual(self.flow(2, [(0, 1, GREATEST, GREATEST)], 0, 1, GREATEST - 2), [0])
        self.assertEqual(self.flow(2, [(0, 1, GREATEST, 1)], 0, 1, GREATEST), [GREATEST])
        self.assertEqual(self.flow(2, [(0, 1, 1, GREATEST)], 0, 1, 0), [0])

    def test_no_figure_is_lost(self):
        passages = [(0, 1, GREATEST, GREATEST - 1), (0, 1, GREATEST - 1, GREATEST), (0, 1, 1, GREATEST - 2)]
        self.assertEqual(self.steps(2, passages, 0, 1),
                         [(GREATEST - 2, 1), (GREATEST - 1, GREATEST), (GREATEST, GREATEST - 1)])

    def test_sixty_passages_and_forty_rooms(self):
        longest = 0
        for seed in range(8):
            for long in (LONG, GREATEST):
                for hall in (helper.wide_hall(seed, GREATEST, long), helper.thick_hall(seed, GREATEST, long, 8)):
                    longest = max(longest, len(self.assert_held_together(hall)))
        self.assertGreaterEqual(longest, 5)

    def test_turns_of_sixty_figures_in_a_hall_of_small_numbers(self):
        for seed in range(8):
            hall = helper.wide_hall(seed, 9, 9)
            self.assert_best(hall, self.steps(*hall), GREATEST)

    def test_great_widths_alone_and_great_lengths_alone(self):
        for seed in range(4):
            self.assert_held_together(helper.thick_hall(seed, GREATEST, 9, 10))
            self.assert_held_together(helper.thick_hall(seed, 9, LONG, 10))

    def test_as_many_times_as_wide_and_as_long(self):
        great = 10 ** 59
        for seed in range(8):
            for hall in (helper.wide_hall(seed, 9, 9), helper.thick_hall(seed, 9, 9, 8)):
                steps = self.steps(*hall)
                many, passages, start, goal = hall
                passages = [(a, b, great * width, great * length) for a, b, width, length in passages]
                self.assertEqual(self.steps(many, passages, start, goal),
                                 [(great * length, great * number) for length, number in steps])

    def test_ways_alike_in_length(self):
        # Pushing along s, a, b, t and s, b, a, t in turn would add one after another.
        passages = [(0, 1, GREATEST, 1), (1, 2, 1, 1), (2, 3, GREATEST, 1), (0, 2, GREATEST, 2), (1, 3, GREATEST, 2)]
        for order in itertools.permutations(passages):
            self.assertEqual(self.steps(4, list(order), 0, 3), [(3, 2 * GREATEST)])
            flow = self.flow(4, list(order), 0, 3, 3)
            self.assertEqual(helper.balance(order, 0, flow), 2 * GREATEST)

    def test_many_ways_alike_in_length(self):
        for seed in range(8):
            for unit in (1, 10 ** 58):
                steps = self.assert_held_together(helper.square_hall(seed, GREATEST, unit))
                self.assertEqual([length for length, _ in steps], [10 * unit])

    def test_many_steps(self):
        self.assertEqual(self.steps(*helper.counting_hall(10, 10 ** 56)), helper.counting_steps(10, 10 ** 56))
        self.assert_best(helper.counting_hall(10), helper.counting_steps(10), 1000)


class OwnTest(PushTest):
    # Many best flows: so a different one would be told, were it left to chance or to what was asked before.
    HALL = (5, [(0, 1, 3, 1), (0, 2, 3, 1), (0, 3, 3, 1), (1, 4, 2, 1), (2, 4, 2, 1), (3, 4, 2, 1),
                (1, 2, 3, 1), (2, 3, 3, 1), (3, 1, 3, 1), (0, 4, 4, 5), (0, 4, 4, 5)], 0, 4)

    def ask(self):
        return steps_of(*self.HALL), [best_flow(*self.HALL, turns) for turns in range(9)]

    def test_the_same_again(self):
        first = copy.deepcopy(self.ask())
        for seed in range(20):
            hall = helper.small_hall(seed)
            steps_of(*hall)
            best_flow(*hall, seed)
            self.assertEqual(self.ask(), first)

    def test_changing_what_was_told_changes_no_answer(self):
        told = self.ask()
        kept = copy.deepcopy(told)
        told[0].clear()
        for flow in told[1]:
            for number in range(len(flow)):
                flow[number] += 7
            flow.append(1)
        self.assertEqual(self.ask(), kept)

    def test_asking_more_changes_nothing_that_was_told(self):
        told = self.ask()
        kept = copy.deepcopy(told)
        self.ask()[0].clear()
        for seed in range(5):
            steps_of(*helper.small_hall(seed)).clear()
            best_flow(*helper.small_hall(seed), 9).clear()
        self.assertEqual(told, kept)

    def test_nothing_told_is_what_was_handed_in(self):
        many, passages, start, goal = self.HALL
        handed = list(passages)
        flow = best_flow(many, handed, start, goal, 9)
        steps = steps_of(many, handed, start, goal)
        flow.append(0)
        steps.append((99, 1))
        self.assertEqual(handed, passages)

    def test_a_list_changed_behind_is_asked_anew(self):
        passages = [(0, 1, 2, 3)]
        steps = steps_of(2, passages, 0, 1)
        flow = best_flow(2, passages, 0, 1, 9)
        passages[0] = (0, 1, 5, 6)
        passages.append((0, 1, 1, 1))
        self.assertEqual((steps, flow), ([(3, 2)], [2]))
        self.assertEqual(self.steps(2, passages, 0, 1), [(1, 1), (6, 5)])
        self.assertEqual(self.flow(2, passages, 0, 1, 9), [5, 1])
        self.assertEqual(self.flow(2, passages, 0, 1, 4), [0, 1])
        passages.clear()
        self.assertEqual(self.steps(2, passages, 0, 1), [])
        self.assertEqual(self.flow(2, passages, 0, 1, 9), [])


if __name__ == "__main__":
    unittest.main()
