import unittest

from leavehall.errors import NoHall
from leavehall.halls import look_at_hall
from tests.helper import GREATEST, TimedTest, small_hall, square_hall, wide_hall


class LookTest(TimedTest):
    def place(self, many, passages, start, goal):
        before = list(passages)
        with self.assertRaises(NoHall) as caught:
            look_at_hall(many, passages, start, goal)
        self.assertEqual(passages, before)
        return caught.exception.place

    def assert_hall(self, many, passages, start, goal):
        before = list(passages)
        self.assertIsNone(look_at_hall(many, passages, start, goal))
        self.assertEqual(passages, before)

    def assert_place(self, place, many, passages, start, goal):
        told = self.place(many, passages, start, goal)
        self.assertIs(type(told), int)
        self.assertEqual(told, place)


class HallsTest(LookTest):
    def test_ordinary_halls(self):
        self.assert_hall(3, [(0, 1, 2, 3), (1, 2, 1, 1)], 0, 2)
        self.assert_hall(4, [(3, 1, 7, 1), (1, 0, 1, 9), (0, 3, 1, 1), (2, 1, 4, 4)], 3, 0)
        for seed in range(40):
            self.assert_hall(*small_hall(seed))

    def test_no_passages(self):
        self.assert_hall(2, [], 0, 1)
        self.assert_hall(2, [], 1, 0)
        self.assert_hall(40, [], 39, 0)

    def test_two_rooms(self):
        self.assert_hall(2, [(0, 1, 1, 1)], 0, 1)
        self.assert_hall(2, [(0, 1, 1, 1)], 1, 0)

    def test_forty_rooms_and_sixty_passages(self):
        self.assert_hall(*wide_hall(1, 9, 9))
        self.assert_hall(*square_hall(1, 9, 1))
        self.assert_hall(40, [(39, 0, 1, 1)] * 60, 38, 39)

    def test_somewhat_beyond_the_bounds_nothing_is_refused(self):
        self.assert_hall(41, [(40, 0, 1, 1)], 40, 0)
        self.assert_hall(2, [(0, 1, 1, 1)] * 61, 0, 1)
        self.assert_hall(*wide_hall(1, 9, 9, many=50, number=80))

    def test_passages_alike_or_with_the_same_ends(self):
        self.assert_hall(2, [(0, 1, 2, 3), (0, 1, 2, 3)], 0, 1)
        self.assert_hall(2, [(0, 1, 2, 3), (0, 1, 5, 7), (1, 0, 2, 3)], 0, 1)

    def test_passages_back_to_start_and_away_from_goal(self):
        self.assert_hall(3, [(1, 0, 1, 1), (2, 1, 1, 1), (2, 0, 1, 1)], 0, 2)

    def test_numbers_of_sixty_figures(self):
        self.assert_hall(2, [(0, 1, GREATEST, GREATEST), (1, 0, 1, GREATEST), (1, 0, GREATEST, 1)], 0, 1)


class NoPlaceTest(LookTest):
    def assert_no_place(self, many, passages, start, goal):
        self.assertIsNone(self.place(many, passages, start, goal))

    def test_too_few_rooms(self):
        for many in (1, 0, -1, -2, -GREATEST):
            for start, goal in ((0, 1), (1, 0), (0, 0), (-1, 0), (-1, -2)):
                self.assert_no_place(many, [], start, goal)

    def test_start_is_no_room(self):
        for many in (2, 3, 40):
            for start in (-1, -2, -many, many, many + 1, 1000, GREATEST, -GREATEST):
                self.assert_no_place(many, [], start, 0)
                self.assert_no_place(many, [(0, 1, 1, 1)], start, 1)

    def test_goal_is_no_room(self):
        for many in (2, 3, 40):
            for goal in (-1, -2, -many, many, many + 1, 1000, GREATEST, -GREATEST):
                self.assert_no_place(many, [], 0, goal)
                self.assert_no_place(many, [(0, 1, 1, 1)], 1, goal)

    def test_start_and_goal_are_the_same(self):
        for room in (0, 1, 2):
            self.assert_no_place(3, [], room, room)
            self.assert_no_place(3, [(0, 1, 1, 1)], room, room)
        self.assert_no_place(3, [], 3, 3)
        self.assert_no_place(3, [], -1, -1)

    def test_also_when_a_passage_is_wrong(self):
        for wrong in ((0, 0, 1, 1), (0, 5, 1, 1), (-1, 0, 1, 1), (0, 1, 0, 1), (0, 1, 1, 0)):
            for passages in ([wrong], [(0, 1, 1, 1), wrong], [wrong, wrong]):
                self.assert_no_place(1, passages, 0, 1)
                self.assert_no_place(0, passages, 0, 1)
                self.assert_no_place(2, passages, 0, 0)
                self.assert_no_place(2, passages, 1, 1)
                self.assert_no_place(2, passages, -1, 1)
                self.assert_no_place(2, passages, 2, 1)
                self.assert_no_place(2, passages, 0, -1)
                self.assert_no_place(2, passages, 0, 2)


class PlaceTest(LookTest):
    RIGHT = [(0, 1, 1, 1), (1, 2, 3, 1), (2, 0, 1, 4), (0, 1, 1, 1)]

    def assert_wrong(self, wrong):
        for place in range(len(self.RIGHT) + 1):
            passages = self.RIGHT[:place] + [wrong] + self.RIGHT[place:]
            self.assert_place(place, 3, passages, 0, 2)
            self.assert_place(place, 3, passages, 2, 1)
        self.assert_hall(3, list(self.RIGHT), 0, 2)

    def test_first_end_is_no_room(self):
        for room in (-1, -2, -3, 3, 4, 1000, GREATEST, -GREATEST):
            self.assert_wrong((room, 0, 1, 1))
            self.assert_wrong((room, 2, 5, 5))

    def test_second_end_is_no_room(self):
        for room in (-1, -2, -3, 3, 4, 1000, GREATEST, -GREATEST):
            self.assert_wrong((0, room, 1, 1))
            self.assert_wrong((2, room, 5, 5))

    def test_both_ends_are_no_rooms(self):
        self.assert_wrong((-1, 3, 1, 1))
        self.assert_wrong((7, 8, 1, 1))

    def test_both_ends_are_the_same(self):
        for room in (0, 1, 2, 3, -1):
            self.assert_wrong((room, room, 1, 1))

    def test_width_below_one(self):
        for width in (0, -1, -2, -GREATEST):
            self.assert_wrong((0, 1, width, 1))
            self.assert_wrong((1, 0, width, 9))

    def test_length_below_one(self):
        for length in (0, -1, -2, -GREATEST):
            self.assert_wrong((0, 1, 1, length))
            self.assert_wrong((1, 0, 9, length))

    def test_width_and_length_below_one(self):
        self.assert_wrong((0, 1, 0, 0))
        self.assert_wrong((0, 1, -1, -1))

    def test_the_first_of_several_whatever_is_wrong_with_it(self):
        wrongs = [(5, 0, 1, 1), (0, 5, 1, 1), (1, 1, 1, 1), (0, 1, 0, 1), (0, 1, 1, 0)]
        for first in wrongs:
            for second in wrongs:
                self.assert_place(0, 3, [first, second], 0, 2)
                self.assert_place(1, 3, [self.RIGHT[0], first, self.RIGHT[1], second], 0, 2)

    def test_the_last_of_sixty(self):
        many, passages, start, goal = wide_hall(2, 9, 9)
        for wrong in ((40, 0, 1, 1), (0, 40, 1, 1), (39, 39, 1, 1), (0, 1, 0, 1), (0, 1, 1, 0)):
            self.assert_place(59, many, passages[:59] + [wrong], start, goal)

    def test_the_last_of_somewhat_more_than_sixty(self):
        self.assert_place(64, 2, [(0, 1, 1, 1)] * 64 + [(0, 1, 0, 1)], 0, 1)


class AgainTest(LookTest):
    def test_a_list_changed_behind_is_looked_at_anew(self):
        passages = [(0, 1, 1, 1)]
        self.assert_hall(2, passages, 0, 1)
        passages.append((0, 1, 0, 1))
        self.assert_place(1, 2, passages, 0, 1)
        passages[0] = (0, 2, 1, 1)
        self.assert_place(0, 2, passages, 0, 1)
        passages.clear()
        self.assert_hall(2, passages, 0, 1)

    def test_the_same_again(self):
        for _ in range(3):
            self.assert_hall(2, [(0, 1, 1, 1)], 0, 1)
            self.assert_place(0, 2, [(0, 2, 1, 1)], 0, 1)
            self.assertIsNone(self.place(2, [(0, 2, 1, 1)], 0, 0))


if __name__ == "__main__":
    unittest.main()
