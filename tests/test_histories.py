import unittest
from copy import deepcopy

from followmost.errors import MostError, NoStand, TooLong
from followmost.histories import ended, history, sums
from followmost.turns import is_below, turn
from followmost.webs import web_of
from tests.samples import GREATEST, NO_NUMBERS, families, heavier, lower, slow_sum, slow_turn, stands_of, staying

# A line of three, each of whom needs one neighbour with 1.
LINE = web_of(3, [(0, 1, 1), (1, 2, 1)], [0, 0, 0], [1, None, None])
TWO = web_of(2, [(0, 1, 1)], None, None)


class Histories(unittest.TestCase):

    def test_by_hand(self):
        self.assertEqual(history(LINE, (1, 0, 0), 0), [(1, 0, 0)])
        self.assertEqual(history(LINE, (1, 0, 0), 1), [(1, 0, 0), (1, 1, 0)])
        self.assertEqual(history(LINE, (1, 0, 0), 4), [(1, 0, 0), (1, 1, 0), (1, 1, 1), (1, 1, 1), (1, 1, 1)])
        self.assertEqual(history(TWO, (0, 1), 3), [(0, 1), (1, 0), (0, 1), (1, 0)])

    def test_four_hundred_turns_and_one_more(self):
        stands = history(TWO, (0, 1), 400)
        self.assertEqual(stands, [(0, 1), (1, 0)] * 200 + [(0, 1)])
        for turns in [401, 402, 10 ** 6, GREATEST]:
            with self.assertRaises(TooLong) as taken:
                history(TWO, (0, 1), turns)
            self.assertIsInstance(taken.exception, MostError)

    def test_no_stand_goes_ahead_of_too_long(self):
        for thing in [(0, 2), (0,), None, [0, 1], (True, 0)] + NO_NUMBERS:
            for turns in [400, 401, GREATEST]:
                with self.assertRaises(NoStand):
                    history(TWO, thing, turns)
        with self.assertRaises(NoStand):
            history(LINE, (0, 0, 0), 401)

    def test_many(self):
        for told, web in families(150):
            for stand in stands_of(told):
                stands = [stand]
                for place in range(6):
                    stands.append(slow_turn(told, stands[-1]))
                self.assertEqual(history(web, stand, 6), stands)

    def test_what_was_told_is_the_askers_own(self):
        told = history(LINE, (1, 0, 0), 2)
        told[0] = (1, 1, 1)
        told.clear()
        self.assertEqual(history(LINE, (1, 0, 0), 2), [(1, 0, 0), (1, 1, 0), (1, 1, 1)])


class Ends(unittest.TestCase):

    def test_at_rest(self):
        self.assertEqual(ended(LINE, (1, 0, 0)), (2, "rest", [(1, 0, 0), (1, 1, 0), (1, 1, 1), (1, 1, 1)]))

    def test_in_a_pair(self):
        # Whoever holds 1 alone in a star and the rest exchange what they hold.
        star = web_of(4, [(0, 1, 1), (0, 2, 1), (0, 3, 1)], None, None)
        self.assertEqual(ended(star, (1, 1, 0, 0)), (1, "pair", [(1, 1, 0, 0), (0, 1, 1, 1), (1, 0, 0, 0)]))

    def test_at_no_turn(self):
        self.assertEqual(ended(LINE, (1, 1, 1)), (0, "rest", [(1, 1, 1), (1, 1, 1)]))
        self.assertEqual(ended(TWO, (0, 1)), (0, "pair", [(0, 1), (1, 0)]))
        self.assertEqual(ended(web_of(1, [], None, None), (1,)), (0, "rest", [(1,), (1,)]))

    def test_behind_one_turn(self):
        self.assertEqual(ended(web_of(1, [], [5], None), (1,)), (1, "rest", [(1,), (0,), (0,)]))

    def test_down_a_long_line(self):
        line = web_of(30, [(person, person + 1, 1) for person in range(29)], [0] * 30, [1] + [None] * 29)
        stands = [(1,) * (place + 1) + (0,) * (29 - place) for place in range(30)]
        self.assertEqual(ended(line, stands[0]), (29, "rest", stands + [stands[-1]]))

    def test_many(self):
        for told, web in families(300):
            for stand in stands_of(told):
                stands = [stand, slow_turn(told, stand), slow_turn(told, slow_turn(told, stand))]
                while stands[-1] != stands[-3]:
                    stands.append(slow_turn(told, stands[-1]))
                word = "rest" if stands[-1] == stands[-2] else "pair"
                self.assertEqual(ended(web, stand), (len(stands) - 3, word, stands[:-1]))

    def test_what_was_told_is_the_askers_own(self):
        ended(LINE, (1, 0, 0))[2].append("more")
        self.assertEqual(ended(LINE, (1, 0, 0)), (2, "rest", [(1, 0, 0), (1, 1, 0), (1, 1, 1), (1, 1, 1)]))


class Sums(unittest.TestCase):

    def test_by_hand(self):
        web = web_of(3, [(0, 1, 2), (1, 2, 3)], [4, -1, 6], None)
        # 9 - 1 - 1 + 13 for the bars; person 1 is pulled by 4 at (1, 1, 0), person 2 by 6, and 1 holds on.
        self.assertEqual(sums(web, [(1, 1, 0), (0, 1, 1)]), [9 - 1 - 1 + 13 - 2 * 4 - 2 - 2 * 6])
        self.assertEqual(sums(web, [(0, 1, 1), (1, 1, 0)]), [-2])
        self.assertEqual(sums(web, [(0, 0, 0), (0, 0, 0)]), [0])
        self.assertEqual(sums(web, [(1, 0, 0), (1, 0, 0)]), [9 + 9 - 2])
        self.assertEqual(sums(web, [(1, 0, 0), (0, 1, 0), (0, 0, 0)]), [9 - 1 - 8, -1])

    def test_those_who_stay_count_too(self):
        self.assertEqual(sums(LINE, [(1, 0, 0), (1, 1, 0), (1, 1, 1), (1, 1, 1)]), [-3, -11, -16])

    def test_of_none_and_of_one(self):
        self.assertEqual(sums(LINE, []), [])
        self.assertEqual(sums(LINE, [(1, 0, 0)]), [])

    def test_the_first_that_does_not_fit(self):
        good = (1, 0, 0)
        for thing in [(0, 0, 0), (1, 0), (1, 0, 2), (1, False, 0), [1, 0, 0], None] + NO_NUMBERS:
            for stands in [[thing], [thing, good], [good, thing], [good, good, thing, good], [thing, thing]]:
                with self.assertRaises(NoStand) as taken:
                    sums(LINE, stands)
                self.assertIsInstance(taken.exception, MostError)

    def test_bars_of_sixty_figures(self):
        web = web_of(2, [(0, 1, 400)], [GREATEST, -GREATEST], None)
        self.assertEqual(sums(web, [(1, 0), (1, 1)]), [2 * (2 * GREATEST + 1) - 2 * GREATEST + 1 - 2 * 800 - 2])

    def test_many_either_way_round(self):
        for told, web in families(150):
            stands = stands_of(told)
            for one in stands:
                for other in stands:
                    total = slow_sum(told, one, other)
                    self.assertEqual(sums(web, [one, other, one]), [total, total])

    def test_lists_are_kept_apart(self):
        handed = [(1, 0, 0), (1, 1, 0), (1, 1, 1)]
        before = deepcopy(handed)
        told = sums(LINE, handed)
        self.assertEqual(handed, before)
        told.append(7)
        handed.clear()
        self.assertEqual(sums(LINE, before), [-3, -11])


class TheWhole(unittest.TestCase):

    def test_sums_never_rise_and_fall_where_a_stand_is_new(self):
        for told, web in families(300):
            for stand in stands_of(told):
                turns, word, stands = ended(web, stand)
                stands = history(web, stand, turns + 4)
                totals = sums(web, stands)
                for place in range(len(totals) - 1):
                    other = sum(a != b for a, b in zip(stands[place], stands[place + 2]))
                    self.assertLessEqual(totals[place + 1], totals[place] - other)
                    self.assertEqual(other == 0, place >= turns)
                self.assertEqual(stands[-1], stands[-3])
                self.assertEqual(stands[-1] == stands[-2], word == "rest")

    def above(self, web, more, stand, start):
        for low, high in zip(history(web, stand, 8), history(more, start, 8)):
            self.assertTrue(is_below(low, high))

    def test_more_ones_at_the_start(self):
        for told, web in families(60):
            stands = stands_of(told)
            for one in stands:
                for other in stands:
                    if is_below(one, other):
                        self.above(web, web, one, other)

    def test_a_heavier_tie_with_the_bars_as_they_were(self):
        for told, web in families(150):
            for more in heavier(told):
                for stand in stands_of(told):
                    self.above(web, web_of(*more), stand, stand)

    def test_a_lower_bar(self):
        for told, web in families(150):
            for more in lower(told):
                for stand in stands_of(told):
                    self.above(web, web_of(*more), stand, stand)

    def test_one_more_who_stays_with_one(self):
        for told, web in families(150):
            for more, person in staying(told):
                for stand in stands_of(told):
                    self.above(web, web_of(*more), stand, stand[:person] + (1,) + stand[person + 1:])

    def test_the_same_asked_again(self):
        for told, web in families(40):
            for stand in stands_of(told):
                self.assertEqual(ended(web, stand), ended(web_of(*told), stand))
                self.assertEqual(turn(web, stand), history(web, stand, 1)[1])
