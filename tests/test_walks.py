import copy
import unittest

from leavehall.pushes import best_flow
from leavehall.walks import length_of, walks_of
from tests import helper
from tests.helper import GREATEST, LONG, TimedTest


class WalksTest(TimedTest):
    def walks(self, passages, start, goal, flow):
        walks = self.told(walks_of, passages, start, goal, flow)
        self.assert_walks(passages, start, goal, walks)
        self.assertLessEqual(len(walks), len(passages))
        self.assertEqual(helper.laid_by(passages, walks), flow)
        return walks


class LaidTest(WalksTest):
    """Flows laid by hand, and by walks that were laid by chance."""

    def test_one_passage(self):
        self.assertEqual(self.walks([(0, 1, 5, 2)], 0, 1, [3]), [([0], 3)])
        self.assertEqual(self.walks([(0, 1, 5, 2)], 0, 1, [5]), [([0], 5)])
        self.assertEqual(self.walks([(1, 0, 5, 2)], 1, 0, [1]), [([0], 1)])

    def test_a_row(self):
        self.assertEqual(self.walks([(0, 1, 5, 2), (1, 2, 5, 2), (2, 3, 9, 1)], 0, 3, [4, 4, 4]), [([0, 1, 2], 4)])
        self.assertEqual(self.walks([(2, 0, 5, 2), (1, 2, 5, 2), (3, 1, 9, 1)], 3, 0, [4, 4, 4]), [([2, 1, 0], 4)])

    def test_noughts(self):
        self.assertEqual(self.walks([], 0, 1, []), [])
        self.assertEqual(self.walks([(0, 1, 5, 2)], 0, 1, [0]), [])
        self.assertEqual(self.walks([(0, 1, 5, 2), (1, 0, 5, 2), (1, 2, 1, 1), (2, 1, 1, 1)], 0, 2, [0] * 4), [])

    def test_passages_with_the_same_ends(self):
        walks = self.walks([(0, 1, 5, 2), (0, 1, 5, 2), (0, 1, 9, 1)], 0, 1, [3, 5, 4])
        self.assertEqual(sorted(walks), [([0], 3), ([1], 5), ([2], 4)])
        self.walks([(0, 1, 5, 2), (0, 1, 5, 2), (1, 2, 9, 1), (1, 2, 9, 1)], 0, 2, [3, 5, 7, 1])
        self.walks([(0, 1, 9, 2), (1, 2, 9, 1), (1, 2, 9, 1), (1, 2, 9, 1), (2, 3, 9, 1)], 0, 3, [9, 2, 0, 7, 9])

    def test_parting_and_meeting_again(self):
        passages = [(0, 1, 9, 1), (1, 2, 9, 1), (1, 3, 9, 1), (2, 4, 9, 1), (3, 4, 9, 1), (4, 5, 9, 1)]
        self.assertEqual(sorted(self.walks(passages, 0, 5, [7, 3, 4, 3, 4, 7])),
                         [([0, 1, 3, 5], 3), ([0, 2, 4, 5], 4)])
        self.assertEqual(self.walks(passages, 0, 5, [7, 0, 7, 0, 7, 7]), [([0, 2, 4, 5], 7)])

    def test_crossing(self):
        passages = [(0, 1, 9, 1), (0, 2, 9, 1), (1, 3, 9, 1), (2, 3, 9, 1), (3, 4, 9, 1), (3, 5, 9, 1), (4, 6, 9, 1),
                    (5, 6, 9, 1)]
        for first in range(10):
            for second in range(first + 1):
                other = 9 - first
                flow = [first, other, first, other, second, 9 - second, second, 9 - second]
                self.assertLessEqual(len(self.walks(passages, 0, 6, flow)), 4)

    def test_sharing_one_passage(self):
        passages = [(0, 1, 5, 1), (0, 2, 5, 1), (1, 2, 5, 1), (2, 3, 9, 1), (3, 4, 5, 1), (3, 5, 5, 1), (4, 5, 5, 1)]
        self.walks(passages, 0, 5, [2, 5, 2, 7, 4, 3, 4])
        self.walks(passages, 0, 5, [5, 1, 5, 6, 1, 5, 1])

    def test_nothing_into_start_or_out_of_goal_is_gone(self):
        passages = [(1, 0, 9, 1), (2, 0, 9, 1), (0, 1, 9, 1), (2, 1, 9, 1), (1, 2, 9, 1), (0, 2, 9, 1), (2, 3, 9, 1)]
        self.assertEqual(sorted(self.walks(passages, 0, 2, [0, 0, 4, 0, 4, 3, 0])), [([2, 4], 4), ([5], 3)])

    def test_passages_without_anyone_are_not_gone(self):
        passages = [(0, 2, 9, 1), (2, 3, 9, 1), (3, 1, 9, 1), (0, 1, 9, 1), (2, 1, 9, 1)]
        self.assertEqual(self.walks(passages, 0, 1, [6, 0, 0, 0, 6]), [([0, 4], 6)])
        self.assertEqual(self.walks(passages, 0, 1, [6, 6, 6, 0, 0]), [([0, 1, 2], 6)])
        self.assertEqual(self.walks(passages, 0, 1, [0, 0, 0, 2, 0]), [([3], 2)])

    def test_fewer_walks_than_people(self):
        passages = [(0, 1, GREATEST, 1), (1, 2, GREATEST, 1), (1, 2, GREATEST, 1)]
        walks = self.walks(passages, 0, 2, [GREATEST, 1, GREATEST - 1])
        self.assertEqual(sorted(walks), [([0, 1], 1), ([0, 2], GREATEST - 1)])

    def test_by_walks_laid_by_chance(self):
        most = 0
        for seed in range(200):
            many = 2 + seed % 7
            most = max(most, len(self.walks(*helper.laid_hall(seed, 9, many, many + seed % 11, seed % 13))))
        self.assertGreaterEqual(most, 5)

    def test_sixty_passages_and_forty_rooms(self):
        for seed in range(20):
            self.walks(*helper.laid_hall(seed, GREATEST // 300, 40, 60, 300))
            self.walks(*helper.laid_hall(seed, GREATEST // 300, 8, 60, 300))
            self.walks(*helper.laid_hall(seed, 3, 12, 60, 300))

    def test_great_numbers_take_no_more_work(self):
        for seed in range(5):
            passages, start, goal, flow = helper.laid_hall(seed, 9, 12, 60, 40)
            great = [10 ** 55 * number for number in flow]
            self.assertEqual(helper.lines_run(lambda: walks_of(passages, start, goal, great)),
                             helper.lines_run(lambda: walks_of(passages, start, goal, flow)))


class BestWalksTest(WalksTest):
    """Every flow that best_flow tells can be parted."""

    def part(self, hall, turns):
        many, passages, start, goal = hall
        flow = best_flow(many, passages, start, goal, turns)
        walks = self.walks(passages, start, goal, flow)
        self.assertEqual(sum(number for _, number in walks), helper.balance(passages, start, flow))
        self.assertEqual(sum(number * length_of(passages, walk) for walk, number in walks),
                         helper.price(passages, flow))
        return walks

    def test_small_halls(self):
        for seed in range(250):
            for turns in range(18):
                self.part(helper.small_hall(seed), turns)

    def test_great_halls(self):
        most = 0
        for seed in range(8):
            for hall in (helper.wide_hall(seed, 9, 9), helper.wide_hall(seed, GREATEST, LONG),
                         helper.thick_hall(seed, 9, 9, 8), helper.thick_hall(seed, GREATEST, GREATEST, 8),
                         helper.square_hall(seed, 9, 1), helper.square_hall(seed, GREATEST, LONG)):
                for turns in (0, 5, 10, 40, LONG, 20 * LONG, GREATEST):
                    most = max(most, len(self.part(hall, turns)))
        self.assertGreaterEqual(most, 10)

    def test_taking_back(self):
        for turns in (0, 7, 40, 41, 100, 1000):
            self.part(helper.counting_hall(6), turns)


class LengthTest(TimedTest):
    PASSAGES = [(0, 1, 5, 2), (1, 2, 7, 30), (2, 3, 9, 400), (0, 1, 1, 5000), (1, 0, 1, 60000)]

    def length(self, passages, walk):
        return self.whole(self.told(length_of, passages, walk))

    def test_the_sum_of_the_lengths(self):
        self.assertEqual([self.length(self.PASSAGES, [number]) for number in range(5)], [2, 30, 400, 5000, 60000])
        self.assertEqual(self.length(self.PASSAGES, [0, 1]), 32)
        self.assertEqual(self.length(self.PASSAGES, [0, 1, 2]), 432)
        self.assertEqual(self.length(self.PASSAGES, [3, 1, 2]), 5430)
        self.assertEqual(self.length(self.PASSAGES, [3, 4, 0, 1, 2]), 65432)

    def test_no_passage(self):
        self.assertEqual(self.length(self.PASSAGES, []), 0)
        self.assertEqual(self.length([], []), 0)

    def test_sixty_figures(self):
        row = [(room, room + 1, 1, GREATEST - room) for room in range(60)]
        self.assertEqual(self.length(row, [59]), GREATEST - 59)
        self.assertEqual(self.length(row, list(range(60))), 60 * GREATEST - 1770)


class OwnWalksTest(WalksTest):
    # There are several ways to part it: so another one would be told, were it left to what was asked before.
    PASSAGES = [(0, 1, 9, 1), (0, 2, 9, 2), (1, 3, 9, 3), (2, 3, 9, 4), (3, 4, 9, 5), (3, 5, 9, 6), (4, 6, 9, 7),
                (5, 6, 9, 8), (3, 6, 9, 9)]
    FLOW = [3, 5, 3, 5, 2, 2, 2, 2, 4]

    def ask(self):
        return walks_of(self.PASSAGES, 0, 6, self.FLOW)

    def test_the_same_again(self):
        first = copy.deepcopy(self.ask())
        for seed in range(20):
            self.walks(*helper.laid_hall(seed, 9, 7, 12, 5))
            self.assertEqual(self.ask(), first)

    def test_changing_what_was_told_changes_no_answer(self):
        told = self.ask()
        kept = copy.deepcopy(told)
        for walk, _ in told:
            walk.reverse()
            walk.append(0)
        told.clear()
        self.assertEqual(self.ask(), kept)

    def test_asking_more_changes_nothing_that_was_told(self):
        told = self.ask()
        kept = copy.deepcopy(told)
        for walk, _ in self.ask():
            walk.clear()
        self.ask().clear()
        self.assertEqual(told, kept)

    def test_no_two_walks_are_the_same_list(self):
        told = self.ask()
        self.assertEqual(len({id(walk) for walk, _ in told}), len(told))

    def test_lists_changed_behind_change_nothing_that_was_told(self):
        passages = list(self.PASSAGES)
        flow = list(self.FLOW)
        told = walks_of(passages, 0, 6, flow)
        kept = copy.deepcopy(told)
        flow[0] = 9
        flow.clear()
        passages.clear()
        self.assertEqual(told, kept)
        self.assertEqual(walks_of(passages, 0, 6, flow), [])
        passages.append((0, 6, 3, 1))
        flow.append(2)
        self.assertEqual(walks_of(passages, 0, 6, flow), [([0], 2)])
        passages[0] = (0, 6, 3, 77)
        self.assertEqual(length_of(passages, [0]), 77)


if __name__ == "__main__":
    unittest.main()
