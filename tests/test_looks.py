import copy
import random
import unittest

from leavehall.looks import come_out, most_at_once, set_out
from leavehall.plans import out_within
from tests import helper
from tests.helper import GREATEST, TimedTest

# Two ways meet at room 2 and part again behind room 3; passage 7 is gone by nobody.
PASSAGES = [(0, 1, 9, 1), (1, 2, 9, 2), (0, 2, 9, 5), (2, 3, 9, 1), (3, 4, 9, 4), (3, 5, 9, 1), (5, 4, 9, 1),
            (4, 0, 9, 3)]
WALKS = ([0, 1, 3, 4], [0, 1, 3, 5, 6], [2, 3, 4], [2, 3, 5, 6])


def chance_plan(seed, last, number=8):
    chance = random.Random(seed)
    plan = []
    for _ in range(chance.randint(0, number)):
        first = chance.randint(0, last)
        plan.append((list(chance.choice(WALKS)), chance.randint(1, 9), first, chance.randint(first, last)))
    return plan


class LooksTest(TimedTest):
    def assert_numbers(self, passages, numbers):
        self.assertIs(type(numbers), list)
        self.assertEqual(len(numbers), len(passages))
        for number in numbers:
            self.assertGreaterEqual(self.whole(number), 0)
        return numbers

    def going(self, passages, plan, moment):
        return self.assert_numbers(passages, self.told(set_out, passages, plan, moment))

    def out(self, passages, plan, moment):
        return self.whole(self.told(come_out, passages, plan, moment))

    def most(self, passages, plan):
        return self.assert_numbers(passages, self.told(most_at_once, passages, plan))

    def hold(self, passages, plan):
        """Holds every answer against the plan gone through moment by moment."""
        going, coming = helper.plan_by_moments(passages, plan)
        end = max(coming, default=0) + 3
        out = 0
        most = [0] * len(passages)
        for moment in range(end + 1):
            numbers = [going[passage, moment] for passage in range(len(passages))]
            most = [max(pair) for pair in zip(most, numbers)]
            out += coming[moment]
            self.assertEqual(self.going(passages, plan, moment), numbers, (plan, moment))
            self.assertEqual(self.out(passages, plan, moment), out, (plan, moment))
        self.assertEqual(self.most(passages, plan), most, plan)


class NoPlanTest(LooksTest):
    def test_no_plan_at_all(self):
        for moment in (0, 1, 50, GREATEST):
            self.assertEqual(self.going(PASSAGES, [], moment), [0] * 8)
            self.assertEqual(self.out(PASSAGES, [], moment), 0)
        self.assertEqual(self.most(PASSAGES, []), [0] * 8)

    def test_no_passages(self):
        self.assertEqual(self.going([], [], 0), [])
        self.assertEqual(self.out([], [], 0), 0)
        self.assertEqual(self.most([], []), [])


class SetOutTest(LooksTest):
    def asked(self, passages, plan, moments):
        return [self.going(passages, plan, moment) for moment in moments]

    def test_one_passage(self):
        passages = [(0, 1, 9, 4)]
        self.assertEqual(self.asked(passages, [([0], 3, 0, 0)], (0, 1, 4)), [[3], [0], [0]])
        self.assertEqual(self.asked(passages, [([0], 3, 2, 5)], range(8)), [[0], [0], [3], [3], [3], [3], [0], [0]])

    def test_later_passages_are_come_to_later(self):
        plan = [([0, 1, 3, 4], 2, 10, 11)]
        told = self.asked(PASSAGES, plan, range(9, 17))
        self.assertEqual([numbers[0] for numbers in told], [0, 2, 2, 0, 0, 0, 0, 0])
        self.assertEqual([numbers[1] for numbers in told], [0, 0, 2, 2, 0, 0, 0, 0])
        self.assertEqual([numbers[3] for numbers in told], [0, 0, 0, 0, 2, 2, 0, 0])
        self.assertEqual([numbers[4] for numbers in told], [0, 0, 0, 0, 0, 2, 2, 0])
        self.assertEqual([[numbers[number] for number in (2, 5, 6, 7)] for numbers in told], [[0] * 4] * 8)

    def test_before_the_first_and_behind_the_last_who_set_out(self):
        plan = [([2, 3, 4], 5, 7, 9)]
        self.assertEqual(self.asked(PASSAGES, plan, (6, 7, 8, 9, 10)),
                         [[0, 0, number, 0, 0, 0, 0, 0] for number in (0, 5, 5, 5, 0)])
        self.assertEqual([self.going(PASSAGES, plan, moment)[4] for moment in (12, 13, 14, 15, 16)], [0, 5, 5, 5, 0])

    def test_a_walk_more_than_once(self):
        plan = [([2, 3, 4], 5, 7, 9), ([2, 3, 4], 20, 9, 10), ([2, 3, 4], 5, 7, 9)]
        self.assertEqual([self.going(PASSAGES, plan, moment)[2] for moment in range(6, 12)], [0, 10, 10, 30, 20, 0])
        self.assertEqual([self.going(PASSAGES, plan, moment)[3] for moment in range(11, 17)], [0, 10, 10, 30, 20, 0])

    def test_walks_that_share_a_passage(self):
        # Those of the first come to passage 3 at 3 + 3 and 3 + 4, those of the second at 5 and 6.
        plan = [([0, 1, 3, 4], 2, 3, 4), ([2, 3, 5, 6], 7, 0, 1)]
        self.assertEqual([self.going(PASSAGES, plan, moment)[3] for moment in range(4, 9)], [0, 7, 9, 2, 0])

    def test_sixty_figures(self):
        passages = [(0, 1, GREATEST, GREATEST), (1, 2, GREATEST, GREATEST)]
        plan = [([0, 1], GREATEST, 0, GREATEST), ([0, 1], GREATEST - 1, GREATEST, GREATEST)]
        both = 2 * GREATEST - 1
        self.assertEqual(self.asked(passages, plan, (0, 1, GREATEST - 1, GREATEST, GREATEST + 1)),
                         [[GREATEST, 0], [GREATEST, 0], [GREATEST, 0], [both, GREATEST], [0, GREATEST]])
        self.assertEqual(self.asked(passages, plan, (2 * GREATEST - 1, 2 * GREATEST, 2 * GREATEST + 1)),
                         [[0, GREATEST], [0, both], [0, 0]])


class ComeOutTest(LooksTest):
    def asked(self, passages, plan, moments):
        return [self.out(passages, plan, moment) for moment in moments]

    def test_one_passage(self):
        passages = [(0, 1, 9, 4)]
        self.assertEqual(self.asked(passages, [([0], 3, 0, 0)], (0, 3, 4, 5, 99)), [0, 0, 3, 3, 3])
        self.assertEqual(self.asked(passages, [([0], 3, 2, 5)], range(12)), [0, 0, 0, 0, 0, 0, 3, 6, 9, 12, 12, 12])

    def test_around_the_first_and_the_last_who_come(self):
        plan = [([2, 3, 4], 5, 7, 9)]
        self.assertEqual(self.asked(PASSAGES, plan, (0, 9, 10, 16, 17, 18, 19, 20, 21, 500)),
                         [0, 0, 0, 0, 5, 10, 15, 15, 15, 15])

    def test_a_walk_more_than_once(self):
        plan = [([2, 3, 4], 5, 7, 9), ([2, 3, 4], 20, 9, 10), ([2, 3, 4], 5, 7, 9)]
        self.assertEqual(self.asked(PASSAGES, plan, range(16, 22)), [0, 10, 20, 50, 70, 70])

    def test_several_walks(self):
        plan = [([0, 1, 3, 4], 2, 0, 3), ([0, 1, 3, 5, 6], 30, 1, 2), ([2, 3, 5, 6], 400, 0, 1)]
        self.assertEqual(self.asked(PASSAGES, plan, range(5, 13)), [0, 0, 30, 462, 864, 866, 868, 868])

    def test_walks_that_end_in_unlike_rooms(self):
        self.assertEqual(self.asked(PASSAGES, [([0], 1, 0, 2), ([1, 3], 10, 0, 2), ([7], 100, 1, 1)], range(7)),
                         [0, 1, 2, 13, 123, 133, 133])

    def test_sixty_figures(self):
        passages = [(0, 1, GREATEST, GREATEST)]
        plan = [([0], GREATEST, 0, GREATEST), ([0], 1, GREATEST, GREATEST)]
        self.assertEqual(self.asked(passages, plan, (GREATEST - 1, GREATEST, GREATEST + 1)),
                         [0, GREATEST, 2 * GREATEST])
        self.assertEqual(self.asked(passages, plan, (2 * GREATEST - 1, 2 * GREATEST, 2 * GREATEST + 1)),
                         [GREATEST * GREATEST, GREATEST * (GREATEST + 1) + 1, GREATEST * (GREATEST + 1) + 1])


class MostAtOnceTest(LooksTest):
    def shared(self, plan):
        return self.most(PASSAGES, plan)[3]

    def test_one_walk(self):
        self.assertEqual(self.most(PASSAGES, [([0, 1, 3, 4], 6, 0, 0)]), [6, 6, 0, 6, 6, 0, 0, 0])
        self.assertEqual(self.most(PASSAGES, [([2, 3, 5, 6], 6, 3, 900)]), [0, 0, 6, 6, 0, 6, 6, 0])

    def test_just_when_just_before_and_just_behind(self):
        # Those of the first walk come to passage 3 from 23 to 32, those of the second five moments behind first.
        for first in range(10, 32):
            plan = [([0, 1, 3, 4], 4, 20, 29), ([2, 3, 5, 6], 3, first, first + 4)]
            self.assertEqual(self.shared(plan), 7 if 14 <= first <= 27 else 4)
            self.hold(PASSAGES, plan)

    def test_one_leaves_off_as_another_begins(self):
        plan = [([2], 4, 0, 5), ([2], 4, 6, 9), ([2], 4, 10, 10)]
        self.assertEqual(self.most(PASSAGES, plan)[2], 4)
        self.assertEqual(self.most(PASSAGES, plan[::-1])[2], 4)
        plan = [([2], 4, 0, 6), ([2], 4, 6, 9), ([2], 4, 10, 10)]
        self.assertEqual(self.most(PASSAGES, plan)[2], 8)
        self.assertEqual(self.most(PASSAGES, plan[::-1])[2], 8)

    def test_a_walk_more_than_once(self):
        walk = [2, 3, 4]
        self.assertEqual(self.most(PASSAGES, [(walk, 5, 7, 9), (walk, 5, 7, 9)]), [0, 0, 10, 10, 10, 0, 0, 0])
        self.assertEqual(self.shared([(walk, 5, 7, 9), (walk, 9, 8, 8), (walk, 5, 10, 12)]), 14)
        self.assertEqual(self.shared([(walk, 5, 7, 9), (walk, 9, 10, 10), (walk, 5, 11, 12)]), 9)

    def test_most_in_the_middle_at_the_begin_and_at_the_end(self):
        for first, last in ((5, 5), (0, 0), (10, 10), (3, 7)):
            self.assertEqual(self.shared([([2, 3, 4], 5, 0, 10), ([2, 3, 5], 2, first, last)]), 7)
        self.assertEqual(self.shared([([2, 3, 4], 5, 0, 10), ([2, 3, 5], 2, 11, 12), ([2, 3, 5], 1, 13, 99)]), 5)

    def test_each_passage_by_itself(self):
        # At passage 3 they are there at unlike moments, at passage 4 at the same.
        passages = [(0, 2, 9, 1), (1, 2, 9, 5), (2, 3, 9, 1), (3, 4, 9, 2)]
        plan = [([0, 2, 3], 3, 0, 0), ([1, 2, 3], 4, 0, 0), ([3], 5, 2, 2)]
        self.assertEqual(self.most(passages, plan), [3, 4, 4, 8])

    def test_sixty_figures(self):
        passages = [(0, 1, GREATEST, GREATEST), (1, 2, GREATEST, GREATEST)]
        plan = [([0, 1], GREATEST, 0, GREATEST), ([1], GREATEST, 0, GREATEST - 1), ([0], 7, GREATEST, GREATEST)]
        self.assertEqual(self.most(passages, plan), [GREATEST + 7, GREATEST])
        plan.append(([1], 1, GREATEST, GREATEST))
        self.assertEqual(self.most(passages, plan), [GREATEST + 7, GREATEST + 1])
        plan.append(([1], GREATEST, 0, GREATEST))
        self.assertEqual(self.most(passages, plan), [GREATEST + 7, 2 * GREATEST + 1])


class MomentByMomentTest(LooksTest):
    def test_plans_by_chance(self):
        for seed in range(150):
            self.hold(PASSAGES, chance_plan(seed, 3 + seed % 15))

    def test_long_plans_by_chance(self):
        for seed in range(5):
            self.hold(PASSAGES, chance_plan(seed, 40, 80))

    def test_a_walk_that_comes_to_a_room_twice(self):
        passages = [(0, 1, 9, 1), (1, 2, 9, 1), (2, 1, 9, 1), (1, 3, 9, 1), (3, 0, 9, 2)]
        self.hold(passages, [([0, 1, 2, 3], 2, 1, 4), ([0, 3], 5, 2, 3), ([3, 4, 0], 7, 0, 6)])

    def test_another_order_of_the_plan(self):
        chance = random.Random(1)
        for seed in range(30):
            plan = chance_plan(seed, 12)
            mixed = chance.sample(plan, len(plan))
            self.assertEqual(self.most(PASSAGES, mixed), self.most(PASSAGES, plan))
            for moment in range(25):
                self.assertEqual(self.going(PASSAGES, mixed, moment), self.going(PASSAGES, plan, moment))
                self.assertEqual(self.out(PASSAGES, mixed, moment), self.out(PASSAGES, plan, moment))

    def test_plans_made_of_walks_told(self):
        for seed in range(20):
            many, passages, start, goal = helper.wide_hall(seed, 9, 3, many=8, number=16)
            _, walks, _ = out_within(many, passages, start, goal, 20)
            self.hold(passages, [(walk, number, 0, 20 - helper.walked(passages, walk)) for walk, number in walks])


class GreatLooksTest(LooksTest):
    """With great numbers an answer must come as soon as with small ones."""

    def test_all_times_a_great_number(self):
        # What lasts from first to last grows by one moment less than so many times: so each lasts one moment.
        great = 10 ** 57
        greater = [(a, b, width, great * length) for a, b, width, length in PASSAGES]
        for seed in range(30):
            plan = [(walk, number, first, first) for walk, number, first, _ in chance_plan(seed, 12)]
            later = [(walk, great * number, great * first, great * first) for walk, number, first, _ in plan]
            self.assertEqual(self.most(greater, later), [great * number for number in self.most(PASSAGES, plan)])
            for moment in range(25):
                self.assertEqual(self.going(greater, later, great * moment),
                                 [great * number for number in self.going(PASSAGES, plan, moment)])
                self.assertEqual(self.going(greater, later, great * moment + 1), [0] * 8)
                self.assertEqual(self.out(greater, later, great * moment), great * self.out(PASSAGES, plan, moment))

    def test_three_hundred_at_once(self):
        row = [(room, room + 1, GREATEST, 10 ** 57) for room in range(39)]
        plan = [(list(range(39)), GREATEST, first, GREATEST - first) for first in range(300)]
        self.assertEqual(self.most(row, plan), [300 * GREATEST] * 39)
        self.assertEqual(self.going(row, plan, 10 ** 58), [300 * GREATEST] * 10 + [GREATEST] + [0] * 28)
        self.assertEqual(self.out(row, plan, 39 * 10 ** 57), GREATEST)
        self.assertEqual(self.out(row, plan, 39 * 10 ** 57 + 1), 3 * GREATEST)

    def test_great_numbers_take_no_more_work(self):
        great = 10 ** 57
        greater = [(a, b, great * width, great * length) for a, b, width, length in PASSAGES]
        for seed in range(10):
            plan = chance_plan(seed, 12)
            later = [(walk, great * number, great * first, great * last) for walk, number, first, last in plan]
            for small, large in ((lambda: set_out(PASSAGES, plan, 9), lambda: set_out(greater, later, great * 9)),
                                 (lambda: come_out(PASSAGES, plan, 9), lambda: come_out(greater, later, great * 9)),
                                 (lambda: most_at_once(PASSAGES, plan), lambda: most_at_once(greater, later))):
                self.assertEqual(helper.lines_run(large), helper.lines_run(small))


class OwnLooksTest(LooksTest):
    PLAN = [([0, 1, 3, 4], 4, 0, 9), ([2, 3, 5, 6], 3, 1, 4), ([2, 3, 4], 2, 2, 2)]

    def ask(self):
        return ([set_out(PASSAGES, self.PLAN, moment) for moment in range(12)],
                [come_out(PASSAGES, self.PLAN, moment) for moment in range(20)],
                most_at_once(PASSAGES, self.PLAN))

    def test_the_same_again(self):
        first = copy.deepcopy(self.ask())
        for seed in range(10):
            self.hold(PASSAGES, chance_plan(seed, 9))
            self.assertEqual(self.ask(), first)

    def test_changing_what_was_told_changes_no_answer(self):
        told = self.ask()
        kept = copy.deepcopy(told)
        for numbers in told[0]:
            numbers[0] += 5
            numbers.append(1)
        told[2].clear()
        self.assertEqual(self.ask(), kept)

    def test_asking_more_changes_nothing_that_was_told(self):
        told = self.ask()
        kept = copy.deepcopy(told)
        again = self.ask()
        again[0][0].clear()
        again[2].clear()
        self.assertEqual(told, kept)

    def test_a_plan_changed_behind_is_looked_at_anew(self):
        passages = [(0, 1, 9, 1), (1, 2, 9, 1)]
        walk = [0, 1]
        plan = [(walk, 3, 0, 0)]
        going = set_out(passages, plan, 1)
        most = most_at_once(passages, plan)
        walk.pop()
        plan.append((walk, 2, 0, 1))
        passages[0] = (0, 1, 9, 5)
        self.assertEqual((going, most), ([0, 3], [3, 3]))
        self.assertEqual(self.going(passages, plan, 1), [2, 0])
        self.assertEqual(self.most(passages, plan), [5, 0])
        self.assertEqual([self.out(passages, plan, moment) for moment in (4, 5, 6)], [0, 5, 7])


if __name__ == "__main__":
    unittest.main()
