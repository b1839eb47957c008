import itertools
import random
import unittest

from leavehall.desk import Desk
from leavehall.errors import HallError, NoHall, NoLine, NoName, NoPassage, NoWidth, TooMany, Twice
from leavehall.named import NamedHall
from tests import helper
from tests.helper import GREATEST, LONG, TimedTest, name_of

TWO_WAYS = ("hall in door", "lay first in mid 4 1", "lay second mid door 3 1", "lay round in door 2 5")
# A line of each kind that is answered, whatever hall there is; x, y and p are filled in.
LINES = ("lay p x y 1 1", "shut p", "widen p 1", "narrow p 1", "out 1", "walks 1", "moments 1", "turns 1", "worth p 1",
         "rooms", "passages")
NO_NUMBERS = ("00", "01", "007", "+1", "+0", "-0", "-00", "-01", "--1", "+-1", "-+1", "++1", "-", "+", "x", "one",
              "1x", "x1", "1.0", "1.", ".1", "1e3", "1_000", "1,000", "0x1", "0b1", "1-", "1-1", "-1-", "1" * 61,
              "-" + "1" * 61, "1" + "0" * 60, "-1" + "0" * 60, "0" * 60, "-" + "0" * 60, "0" + "1" * 59, "9" * 500)
# These are figures elsewhere, and would be read as such.
OTHER_FIGURES = ("\u0661", "\u00b2", "1\u0661", "\u0967", "\uff11", "-\uff11")
SIXTY = "9" * 60


def desk_with(*lines):
    desk = Desk()
    for line in lines:
        desk.say(line)
    return desk


def lines_of(many, passages, start, goal):
    lines = [f"hall {name_of(start)} {name_of(goal)}"]
    for number, (a, b, width, length) in enumerate(passages):
        lines.append(f"lay {name_of(number)} {name_of(a)} {name_of(b)} {width} {length}")
    return lines


class DeskTest(TimedTest):
    def say(self, desk, line):
        told = desk.say(line)
        self.assertIs(type(told), str, line)
        return told

    def all_told(self, desk):
        return [self.say(desk, line) for line in ("rooms", "passages", "out 7", "walks 7", "moments 7", "turns 9")]

    def assert_kept(self, desk, error, line):
        """Refused, and behind it all is answered as before."""
        kept = self.all_told(desk)
        self.assert_refused(error, desk.say, line)
        self.assertEqual(self.all_told(desk), kept)

    def assert_no_line(self, line):
        """Refused so where there is a hall, and where none was told yet."""
        self.assert_kept(desk_with(*TWO_WAYS), NoLine, line)
        desk = Desk()
        self.assert_refused(NoLine, desk.say, line)
        self.assert_refused(NoHall, desk.say, "rooms")


class AnswersTest(DeskTest):
    def test_word_for_word(self):
        desk = Desk()
        for line, answer in (("hall in door", "ok"),
                             ("rooms", "in door"),
                             ("passages", "none"),
                             ("out 9", "0"),
                             ("walks 9", "none"),
                             ("moments 9", "in: 0; door: 10"),
                             ("turns 1", "never"),
                             ("lay first in mid 4 1", "ok"),
                             ("passages", "first in mid 4 1"),
                             ("rooms", "in door mid"),
                             ("lay second mid door 3 1", "ok"),
                             ("lay round in door 2 5", "ok"),
                             ("rooms", "in door mid"),
                             ("passages", "first in mid 4 1; second mid door 3 1; round in door 2 5"),
                             ("out 0", "0"),
                             ("out 2", "3"),
                             ("out 5", "14"),
                             ("walks 1", "none"),
                             ("walks 2", "3 by first second"),
                             ("walks 5", "2 by round; 3 by first second"),
                             ("turns 1", "2"),
                             ("turns 14", "5"),
                             ("turns 15", "6"),
                             ("worth round 4", "0"),
                             ("worth round 5", "2"),
                             ("worth first 5", "12"),
                             ("widen second 1", "ok"),
                             ("passages", "first in mid 4 1; second mid door 4 1; round in door 2 5"),
                             ("out 5", "18"),
                             ("narrow first 3", "ok"),
                             ("passages", "first in mid 1 1; second mid door 4 1; round in door 2 5"),
                             ("out 5", "6"),
                             ("shut first", "ok"),
                             ("passages", "second mid door 4 1; round in door 2 5"),
                             ("rooms", "in door mid"),
                             ("walks 5", "2 by round"),
                             ("lay first mid in 7 8", "ok"),
                             ("passages", "second mid door 4 1; round in door 2 5; first mid in 7 8")):
            self.assertEqual(self.say(desk, line), answer, line)

    def test_moments_in_the_order_of_rooms(self):
        # There is but one passage that stops people: so there is but one moment for each room.
        desk = desk_with("hall z a", "lay p z m 9 2", "lay q m b 1 3", "lay r b a 9 4")
        self.assertEqual(self.say(desk, "rooms"), "z a m b")
        self.assertEqual(self.say(desk, "moments 20"), "z: 0; a: 21; m: 2; b: 17")
        self.assertEqual(self.say(desk, "out 20"), "12")

    def test_walks_sorted_as_texts(self):
        desk = desk_with("hall in door", "lay c in door 2 1", "lay a in door 10 1", "lay d in door 9 1",
                         "lay b in door 100 1", "lay e in door 2 2", "lay bb in door 100 1")
        self.assertEqual(self.say(desk, "walks 2"), "10 by a; 100 by b; 100 by bb; 2 by c; 2 by e; 9 by d")
        self.assertEqual(self.say(desk, "walks 1"), "10 by a; 100 by b; 100 by bb; 2 by c; 9 by d")

    def test_walks_sorted_as_texts_and_not_by_their_names(self):
        # The blank between two names stands ahead of every letter, the sign ; behind the blank and ahead of them.
        desk = desk_with("hall in door", "lay a in mid 1 1", "lay b mid door 1 1", "lay aa in door 1 1")
        self.assertEqual(self.say(desk, "walks 3"), "1 by a b; 1 by aa")

    def test_names_that_are_words_of_the_desk(self):
        words = ("hall", "lay", "shut", "widen", "narrow", "out", "walks", "moments", "turns", "worth", "rooms",
                 "passages", "none", "never", "ok", "by")
        desk = desk_with("hall hall out")
        for name, a, b in zip(words, words[1:], words[2:]):
            self.assertEqual(self.say(desk, f"lay {name} {a} {b} 3 2"), "ok")
        self.assertEqual(self.say(desk, "lay by hall never 3 2"), "ok")
        self.assertEqual(self.say(desk, "lay ok never out 3 2"), "ok")
        self.assertEqual(self.say(desk, "rooms"),
                         "hall out lay shut widen narrow walks moments turns worth rooms passages none never ok by")
        self.assertEqual(self.say(desk, "walks 4"), "3 by by ok")
        self.assertEqual(self.say(desk, "worth by 4"), "3")
        for word in ("widen", "narrow", "shut"):
            self.assertEqual(self.say(desk, f"widen {word} 5"), "ok")
            self.assertEqual(self.say(desk, f"narrow {word} 7"), "ok")
            self.assertEqual(self.say(desk, f"shut {word}"), "ok")
        self.assertEqual(self.say(desk, "hall none never"), "ok")
        self.assertEqual(self.say(desk, "rooms"), "none never")

    def test_a_second_hall(self):
        desk = desk_with(*TWO_WAYS)
        self.assertEqual(self.say(desk, "hall door cellar"), "ok")
        self.assertEqual(self.say(desk, "rooms"), "door cellar")
        self.assertEqual(self.say(desk, "passages"), "none")
        self.assertEqual(self.say(desk, "turns 1"), "never")
        self.assert_refused(NoPassage, desk.say, "shut first")
        self.assertEqual(self.say(desk, "lay first door cellar 1 1"), "ok")
        self.assertEqual(self.say(desk, "hall door cellar"), "ok")
        self.assertEqual(self.say(desk, "passages"), "none")

    def test_desks_stand_alone(self):
        one = desk_with(*TWO_WAYS)
        other = Desk()
        self.assert_refused(NoHall, other.say, "rooms")
        other.say("hall a b")
        self.assertEqual(self.say(one, "rooms"), "in door mid")

    def test_the_same_again(self):
        desk = desk_with(*TWO_WAYS)
        kept = self.all_told(desk)
        for turns in range(9):
            for line in (f"out {turns}", f"walks {turns}", f"moments {turns}", f"worth first {turns}"):
                self.assertEqual(self.say(desk, line), self.say(desk, line))
        self.assertEqual(self.all_told(desk), kept)

    def test_the_same_as_the_named_hall(self):
        for seed in range(15):
            many, passages, start, goal = helper.small_hall(seed)
            desk = desk_with(*lines_of(many, passages, start, goal))
            hall = NamedHall(name_of(start), name_of(goal))
            for number, (a, b, width, length) in enumerate(passages):
                hall.lay(name_of(number), name_of(a), name_of(b), width, length)
            self.assert_same(desk, hall)

    def assert_same(self, desk, hall):
        self.assertEqual(self.say(desk, "rooms"), " ".join(hall.rooms()))
        passages = "; ".join(" ".join(map(str, passage)) for passage in hall.passages())
        self.assertEqual(self.say(desk, "passages"), passages or "none")
        for turns in (0, 1, 4, 9, 20):
            many, walks, moments = hall.out(turns)
            walks = "; ".join(sorted(f"{number} by " + " ".join(names) for names, number in walks))
            self.assertEqual(self.say(desk, f"out {turns}"), str(many))
            self.assertEqual(self.say(desk, f"walks {turns}"), walks or "none")
            self.assertEqual(self.say(desk, f"moments {turns}"), "; ".join(f"{room}: {at}" for room, at in moments))
            for passage in hall.passages():
                self.assertEqual(self.say(desk, f"worth {passage[0]} {turns}"), str(hall.worth(passage[0], turns)))
        for people in (1, 2, 9, 50):
            fewest = hall.turns_for(people)
            self.assertEqual(self.say(desk, f"turns {people}"), "never" if fewest is None else str(fewest[0]))


class NoLineTest(DeskTest):
    def test_no_word_at_all(self):
        for line in ("", " ", "  ", "   "):
            self.assert_no_line(line)

    def test_another_word(self):
        for line in ("x", "halls", "hal", "Hall in door", "HALL in door", "lays p in door 1 1", "room", "Rooms",
                     "open p", "close p", "wide p 1", "outs 1", "turn 1", "walk 1", "moment 1", "passage", "1", "out1",
                     "help", "rooms;", "hall,in,door", "#", "name", "number", "people", "in door", "5 out", "-"):
            self.assert_no_line(line)

    def test_too_few_or_too_many_words(self):
        for line in LINES + ("hall in door",):
            words = line.split(" ")
            for number in range(1, len(words)):
                self.assert_no_line(" ".join(words[:number]))
            for more in ("1", "x", "x y", "1 1 1"):
                self.assert_no_line(line + " " + more)
                self.assert_no_line(words[0] + " " + more + line[len(words[0]):])

    def test_a_blank_too_much(self):
        for line in LINES + ("hall in door",):
            self.assert_no_line(" " + line)
            self.assert_no_line(line + " ")
            words = line.split(" ")
            for place in range(1, len(words)):
                self.assert_no_line(" ".join(words[:place]) + "  " + " ".join(words[place:]))

    def test_a_blank_in_the_place_of_a_word(self):
        for line in LINES + ("hall in door",):
            words = line.split(" ")
            for place in range(len(words)):
                self.assert_no_line(" ".join(words[:place] + [""] + words[place + 1:]))

    def number_lines(self, number):
        return (f"lay p in door {number} 1", f"lay p in door 1 {number}", f"lay p in door {number} {number}",
                f"widen first {number}", f"narrow first {number}", f"out {number}", f"walks {number}",
                f"moments {number}", f"turns {number}", f"worth first {number}")

    def test_no_number(self):
        for number in NO_NUMBERS + OTHER_FIGURES:
            for line in self.number_lines(number):
                self.assert_no_line(line)

    def test_each_sign_in_a_number(self):
        for number in range(33, 127):
            sign = chr(number)
            if sign not in "0123456789":
                for wrong in (sign, "1" + sign, "1" + sign + "1", "-" + sign) + ((sign + "1",) if sign != "-" else ()):
                    self.assert_no_line("out " + wrong)
                    self.assert_no_line("widen first " + wrong)

    def test_turns_below_nought(self):
        for turns in ("-1", "-2", "-10", "-" + SIXTY):
            for line in ("out", "walks", "moments", "worth first", "worth third"):
                self.assert_no_line(f"{line} {turns}")

    def test_people_below_one(self):
        for people in ("0", "-1", "-2", "-" + SIXTY):
            self.assert_no_line(f"turns {people}")

    def test_numbers_that_are_written_so(self):
        desk = desk_with(*TWO_WAYS)
        for number in ("0", "1", "9", "10", "100", "1234567890", SIXTY, "1" + "0" * 59):
            for line in ("out", "walks", "moments", "worth first"):
                self.say(desk, f"{line} {number}")
            if number != "0":
                self.say(desk, f"turns {number}")
                self.assertEqual(self.say(desk, f"widen round {number}"), "ok")
                self.assertEqual(self.say(desk, f"narrow round {number}"), "ok")
                self.assertEqual(self.say(desk, f"lay p in door {number} {number}"), "ok")
                self.assertIn(f"p in door {number} {number}", self.say(desk, "passages"))
                self.assertEqual(self.say(desk, "shut p"), "ok")
        for number in ("-1", "-10", "-" + SIXTY, "-1" + "0" * 59, "0"):
            self.assert_kept(desk, NoWidth, f"widen round {number}")
            self.assert_kept(desk, NoWidth, f"narrow round {number}")
            self.assert_kept(desk, NoHall, f"lay p in door {number} 1")
            self.assert_kept(desk, NoHall, f"lay p in door 1 {number}")

    def test_no_line_ahead_of_all_else(self):
        for line in ("lay P in door 1 01", "lay first in in 0 +1", "lay first A B 0 1 1", "shut third x",
                     "widen third 00", "narrow third -0", "worth third -1", "worth third 01", "hall A", "hall A A A", "hall  A A",
                     "lay P Q R x y"):
            self.assert_no_line(line)


class NoHallTest(DeskTest):
    def test_where_none_was_told(self):
        for line in LINES + ("lay P A A 0 0", "lay p x x 0 -5", "widen p -1", "narrow p 0", "worth P 0", "shut ~"):
            self.assert_refused(NoHall, Desk().say, line)

    def test_again_and_again(self):
        desk = Desk()
        for line in LINES + LINES:
            self.assert_refused(NoHall, desk.say, line)
        self.assertEqual(self.say(desk, "hall in door"), "ok")
        self.assertEqual(self.say(desk, "passages"), "none")

    def test_a_refused_hall_is_none(self):
        desk = Desk()
        for error, line in ((NoName, "hall A b"), (NoName, "hall a B"), (Twice, "hall a a"), (NoLine, "hall a"),
                            (NoLine, "hall a b c")):
            self.assert_refused(error, desk.say, line)
            self.assert_refused(NoHall, desk.say, "rooms")
            self.assert_refused(NoHall, desk.say, "lay p a b 1 1")
            self.assert_refused(NoLine, desk.say, "lay p a b 1")


class RefusedTest(DeskTest):
    def test_halls(self):
        desk = desk_with(*TWO_WAYS)
        for wrong in ("A", "abcdefghijklm", "a1", "1", "-1", "a-b", "a;", "~"):
            self.assert_kept(desk, NoName, f"hall {wrong} door")
            self.assert_kept(desk, NoName, f"hall in {wrong}")
            self.assert_kept(desk, NoName, f"hall {wrong} {wrong}")
        self.assert_kept(desk, Twice, "hall in in")
        self.assert_kept(desk, Twice, "hall new new")

    def test_lay(self):
        desk = desk_with(*TWO_WAYS)
        for error, line in ((NoName, "lay P in door 1 1"), (NoName, "lay p IN door 1 1"), (NoName, "lay p in DOOR 1 1"),
                            (NoName, "lay abcdefghijklm in door 1 1"), (NoName, "lay 1 2 3 4 5"),
                            (Twice, "lay first in door 1 1"), (NoHall, "lay p in in 1 1"),
                            (NoHall, "lay p in door 0 1"), (NoHall, "lay p in door 1 0"), (NoHall, "lay p new newer -1 1")):
            self.assert_kept(desk, error, line)

    def test_two_wrongs_on_one_line(self):
        desk = desk_with(*TWO_WAYS)
        for error, line in ((NoName, "lay P A B 0 0"), (NoName, "lay first IN door 1 1"),
                            (NoName, "lay first in A 0 0"), (NoName, "lay p A A 0 0"), (Twice, "lay first in in 1 1"), (Twice, "lay first in door 0 0"),
                            (NoHall, "lay p in in 0 0"), (NoPassage, "widen third 0"), (NoPassage, "narrow third -1"),
                            (NoPassage, "narrow IN 0"), (NoName, "hall A A")):
            self.assert_kept(desk, error, line)

    def test_too_many_passages(self):
        desk = desk_with("hall in door")
        for number in range(60):
            self.assertEqual(self.say(desk, f"lay {name_of(number)} in door 1 1"), "ok")
        self.assert_kept(desk, TooMany, "lay p in door 1 1")
        self.assert_kept(desk, NoHall, "lay p in door 1 0")
        self.assert_kept(desk, Twice, "lay aa in door 1 1")
        self.say(desk, "shut aa")
        self.assertEqual(self.say(desk, "lay p in door 1 1"), "ok")

    def test_too_many_rooms(self):
        desk = desk_with("hall in door")
        for number in range(37):
            self.say(desk, f"lay {name_of(number)} in {name_of(number)} 1 1")
        self.assert_kept(desk, TooMany, "lay p new newer 1 1")
        self.assertEqual(self.say(desk, "lay p new door 1 1"), "ok")
        self.assert_kept(desk, TooMany, "lay q newer door 1 1")

    def test_widths_and_passages(self):
        desk = desk_with(*TWO_WAYS)
        for line in ("shut third", "shut in", "shut FIRST", "widen third 1", "narrow mid 1", "worth third 5",
                     "worth door 0", "shut -1", "worth 1 1"):
            self.assert_kept(desk, NoPassage, line)
        for line in ("widen first 0", "widen first -1", "narrow first 0", "narrow first -1", "narrow first 4",
                     "narrow first 5", "narrow first " + SIXTY):
            self.assert_kept(desk, NoWidth, line)
        self.assertEqual(self.say(desk, "narrow first 3"), "ok")

    def test_refused_lines_by_chance(self):
        # One desk is told all lines, another only those that are not refused: they answer alike.
        chance = random.Random(1)
        words = ("hall", "lay", "lay", "lay", "lay", "widen", "narrow", "shut", "out", "worth")
        names = ("a", "b", "c", "d", "e", "B")
        refused = 0
        for _ in range(20):
            desk = desk_with("hall a b")
            other = desk_with("hall a b")
            for _ in range(60):
                word = chance.choice(words if chance.random() < 0.3 else words[1:])
                form = {"hall": "nn", "lay": "nnnii", "shut": "n", "widen": "ni", "narrow": "ni", "out": "i",
                        "worth": "ni"}[word]
                line = " ".join([word] + [chance.choice(names) if kind == "n" else str(chance.randint(-1, 5))
                                          for kind in form])
                try:
                    answer = desk.say(line)
                except HallError:
                    refused += 1
                else:
                    self.assertEqual(other.say(line), answer)
                self.assertEqual(self.all_told(desk), self.all_told(other))
        self.assertGreaterEqual(refused, 100)


class GreatDeskTest(DeskTest):
    """With great numbers an answer must come as soon as with small ones."""

    def test_one_passage(self):
        desk = desk_with("hall in door", f"lay p in door {SIXTY} {SIXTY}")
        self.assertEqual(self.say(desk, "out " + SIXTY), SIXTY)
        self.assertEqual(self.say(desk, "walks " + SIXTY), SIXTY + " by p")
        self.assertEqual(self.say(desk, "moments " + SIXTY), "in: 0; door: 1" + "0" * 60)
        self.assertEqual(self.say(desk, "turns " + SIXTY), SIXTY)
        self.assertEqual(self.say(desk, "worth p " + SIXTY), SIXTY)
        self.assertEqual(self.say(desk, "widen p " + SIXTY), "ok")
        self.assertEqual(self.say(desk, "passages"), f"p in door {2 * GREATEST} {SIXTY}")
        self.assertEqual(self.say(desk, "out " + SIXTY), str(2 * GREATEST))

    def test_great_numbers_are_answered(self):
        desk = desk_with("hall in door", f"lay p in door {SIXTY} 1", f"lay q in door {SIXTY} 1")
        self.assertEqual(self.say(desk, "out " + SIXTY), str(2 * GREATEST * GREATEST))
        self.assertEqual(self.say(desk, "turns 1"), "1")
        self.assertEqual(self.say(desk, "worth q " + SIXTY), str(GREATEST * GREATEST))

    def test_sixty_passages_and_forty_rooms(self):
        for seed in range(4):
            for hall in (helper.wide_hall(seed, GREATEST, LONG), helper.thick_hall(seed, GREATEST, GREATEST, 12),
                         helper.square_hall(seed, GREATEST, 10 ** 58)):
                desk = desk_with(*lines_of(*hall))
                self.assertEqual(self.say(desk, "passages").count("; "), 59)
                for turns, name in itertools.product((0, LONG, GREATEST), ("aa", "bb", "cc")):
                    self.assertGreaterEqual(int(self.say(desk, f"worth {name} {turns}")), 0)
                    self.assertGreaterEqual(int(self.say(desk, f"out {turns}")), 0)
                people = self.say(desk, "out " + SIXTY)
                if people != "0" and len(people) <= 60:
                    self.assertEqual(self.say(desk, f"turns {people}"), SIXTY)
                self.assertNotEqual(self.say(desk, "turns " + SIXTY), "never")

    def test_great_numbers_take_no_more_work(self):
        great = 10 ** 57
        for seed in range(3):
            many, passages, start, goal = helper.thick_hall(seed, 9, 9, 12)
            greater = [(a, b, great * width, great * length) for a, b, width, length in passages]
            small = desk_with(*lines_of(many, passages, start, goal))
            large = desk_with(*lines_of(many, greater, start, goal))
            for line in ("out", "walks", "moments", "turns", "worth ac", "widen ac", "narrow ac"):
                few = helper.lines_run(lambda: small.say(f"{line} 50"))
                lines = helper.lines_run(lambda: large.say(f"{line} {50 * great}"))
                # Each figure of a number is looked at once.
                self.assertLessEqual(lines, 2 * few + 500)


if __name__ == "__main__":
    unittest.main()
