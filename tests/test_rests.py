import unittest

from followmost.errors import NoRest, NoStand, TooMuch
from followmost.histories import ended, history
from followmost.rests import greatest_rest, joined, least_rest, met, pairs, rests
from followmost.turns import is_below
from followmost.webs import web_of
from tests.samples import FOUR, GREATEST, families, heavier, lower, no_stands, refused
from tests.samples import slow_pairs, slow_rests, slow_turn, stands_of, staying

TWO = web_of(2, [(0, 1, 1)], None, None)
LINE = web_of(3, [(0, 1, 1), (1, 2, 1)], [0, 0, 0], [1, None, None])
HUGE = web_of(3, [(0, 1, 400), (1, 2, 400)], [GREATEST, -GREATEST, 800], None)

# Person 2 needs both its neighbours, who each hold what they hold where it holds 0.
BOTH = web_of(3, [(0, 2, 1), (1, 2, 1)], [0, 0, 3], None)
# Person 2 needs one of its neighbours, who each hold what they hold where it holds 1.
EITHER = web_of(3, [(0, 2, 1), (1, 2, 1)], [2, 2, 1], None)


def couples(many, stays):
    """People two by two, each of whom takes what the other holds, and some who stay."""
    ties = [(person, person + 1, 1) for person in range(0, many, 2)]
    return web_of(many + len(stays), ties, None, [None] * many + stays)


def line(many, stay, bar):
    ties = [(person, person + 1, 1) for person in range(many - 1)]
    return web_of(many, ties, [bar] * many, [stay] + [None] * (many - 1))


class LeastAndGreatest(unittest.TestCase):

    def ends(self, web, least, greatest):
        self.assertEqual((least_rest(web), greatest_rest(web)), (least, greatest))

    def test_nobody_stays(self):
        self.ends(TWO, (0, 0), (1, 1))
        self.ends(BOTH, (0, 0, 0), (1, 1, 1))
        self.ends(web_of(3, [(0, 1, 1), (1, 2, 1)], [-1, 1, 1], None), (1, 1, 1), (1, 1, 1))
        self.ends(web_of(3, [(0, 1, 1), (1, 2, 1)], [3, 3, 3], None), (0, 0, 0), (0, 0, 0))
        self.ends(HUGE, (0, 1, 0), (0, 1, 1))

    def test_some_stay(self):
        self.ends(LINE, (1, 1, 1), (1, 1, 1))
        self.ends(web_of(3, [(0, 1, 1), (1, 2, 1)], [2, 2, 2], [0, None, None]), (0, 0, 0), (0, 1, 1))
        self.ends(web_of(3, [(0, 1, 1), (1, 2, 1)], [2, 2, 2], [1, None, None]), (1, 0, 0), (1, 1, 1))
        self.ends(web_of(3, [(0, 1, 1), (1, 2, 1)], [1, 3, 1], [0, None, None]), (0, 0, 0), (0, 0, 0))
        self.ends(web_of(3, [(0, 1, 1), (1, 2, 1)], [1, 1, 1], [0, None, 1]), (0, 1, 1), (0, 1, 1))
        self.ends(web_of(3, [(0, 1, 1), (1, 2, 1)], [2, 2, 2], [0, None, 1]), (0, 0, 1), (0, 1, 1))

    def test_all_stay(self):
        self.ends(web_of(3, [(0, 1, 1), (1, 2, 1)], [-9, 9, -9], [0, 1, 0]), (0, 1, 0), (0, 1, 0))
        self.ends(web_of(2, [], None, [0, 0]), (0, 0), (0, 0))
        self.ends(web_of(2, [], None, [1, 1]), (1, 1), (1, 1))

    def test_one_person(self):
        self.ends(web_of(1, [], [0], None), (0,), (1,))
        self.ends(web_of(1, [], [1], None), (0,), (0,))
        self.ends(web_of(1, [], [-1], None), (1,), (1,))
        self.ends(web_of(1, [], [-1], [0]), (0,), (0,))
        self.ends(web_of(1, [], [1], [1]), (1,), (1,))

    def test_thirty_people(self):
        self.ends(line(30, 1, 0), (1,) * 30, (1,) * 30)
        self.ends(line(30, 0, 0), (0,) * 30, (0,) + (1,) * 29)
        self.ends(line(30, 0, 3), (0,) * 30, (0,) * 30)
        self.ends(line(30, None, 2), (0,) * 30, (1,) * 30)

    def test_many(self):
        for told, web in families(300):
            every = slow_rests(told)
            least, greatest = least_rest(web), greatest_rest(web)
            self.assertIn(least, every)
            self.assertIn(greatest, every)
            for rest in every:
                self.assertTrue(is_below(least, rest))
                self.assertTrue(is_below(rest, greatest))

    def test_where_the_least_and_the_greatest_stand_end(self):
        for told, web in families(150):
            stands = stands_of(told)
            for start, rest in [(min(stands), least_rest(web)), (max(stands), greatest_rest(web))]:
                turns, word, behind = ended(web, start)
                self.assertEqual((word, behind[-1]), ("rest", rest))
                for one, other in zip(behind, behind[1:]):
                    self.assertTrue(is_below(one, other) if start == min(stands) else is_below(other, one))

    def test_each_history_comes_between_them(self):
        for told, web in families(150):
            stands = stands_of(told)
            turns = max(ended(web, min(stands))[0], ended(web, max(stands))[0])
            for stand in stands:
                for behind in history(web, stand, turns + 3)[turns:]:
                    self.assertTrue(is_below(least_rest(web), behind))
                    self.assertTrue(is_below(behind, greatest_rest(web)))


class All(unittest.TestCase):

    def test_by_hand(self):
        self.assertEqual(rests(TWO), [(0, 0), (1, 1)])
        self.assertEqual(pairs(TWO), [((0, 1), (1, 0))])
        self.assertEqual(rests(BOTH), [(0, 0, 0), (0, 1, 0), (1, 0, 0), (1, 1, 1)])
        self.assertEqual(rests(EITHER), [(0, 0, 0), (0, 1, 1), (1, 0, 1), (1, 1, 1)])
        self.assertEqual(rests(HUGE), [(0, 1, 0), (0, 1, 1)])

    def test_no_pair(self):
        for web in [LINE, HUGE, web_of(1, [], None, None), web_of(2, [(0, 1, 1)], None, [0, 1])]:
            self.assertEqual(pairs(web), [])

    def test_one_person(self):
        self.assertEqual(rests(web_of(1, [], [0], None)), [(0,), (1,)])
        self.assertEqual(rests(web_of(1, [], [1], None)), [(0,)])
        self.assertEqual(rests(web_of(1, [], [1], [1])), [(1,)])

    def test_all_stay(self):
        web = web_of(3, [(0, 1, 1), (1, 2, 1)], [-9, 9, -9], [0, 1, 0])
        self.assertEqual((rests(web), pairs(web)), ([(0, 1, 0)], []))
        web = web_of(30, [], None, [0, 1] * 15)
        self.assertEqual((rests(web), pairs(web)), ([(0, 1) * 15], []))

    def twelve(self, web, stays):
        every = rests(web)
        self.assertEqual(len(every), 2 ** 6)
        self.assertEqual(every, sorted(set(every)))
        for rest in every:
            self.assertEqual(rest[0:12:2], rest[1:12:2])
            self.assertEqual(rest[12:], stays)
        both = pairs(web)
        self.assertEqual(len(both), (4 ** 6 - 2 ** 6) // 2)
        self.assertEqual(both, sorted(set(both)))
        for one, other in both:
            self.assertLess(one, other)
            self.assertEqual((one[0:12:2], one[1:12:2]), (other[1:12:2], other[0:12:2]))
            self.assertEqual((one[12:], other[12:]), (stays, stays))

    def test_twelve_who_do_not_stay(self):
        self.twelve(couples(12, []), ())

    def test_twelve_who_do_not_stay_among_thirty(self):
        self.twelve(couples(12, [0, 1] * 9), (0, 1) * 9)

    def test_twelve_alone_each_hold_what_they_hold(self):
        web = web_of(12, [], None, None)
        self.assertEqual(rests(web), stands_of((12, [], None, None)))
        self.assertEqual(pairs(web), [])

    def test_thirteen_who_do_not_stay(self):
        for web in [web_of(13, [], None, None), web_of(30, [], None, [None] * 13 + [0, 1] * 8 + [1]),
                    web_of(30, [], [5] * 30, None), web_of(14, [], None, [1] + [None] * 13), couples(14, [0])]:
            refused(self, TooMuch, rests, web)
            refused(self, TooMuch, pairs, web)

    def test_many(self):
        for told, web in families(300):
            self.assertEqual(rests(web), slow_rests(told))
            self.assertEqual(pairs(web), slow_pairs(told))

    def test_kinds(self):
        self.assertEqual([type(rests(TWO)), type(rests(TWO)[0])], [list, tuple])
        self.assertEqual([type(thing) for thing in [pairs(TWO), pairs(TWO)[0], *pairs(TWO)[0]]],
                         [list, tuple, tuple, tuple])

    def test_what_was_told_is_the_askers_own(self):
        for ask in [rests, pairs]:
            told = ask(TWO)
            before = list(told)
            told[0] = "another"
            told.append("more")
            self.assertEqual(ask(TWO), before)
        told = pairs(LINE)
        told.append("more")
        self.assertEqual(pairs(LINE), [])


class JoinedAndMet(unittest.TestCase):

    def test_neither_below_the_other(self):
        self.assertEqual(joined(BOTH, (1, 0, 0), (0, 1, 0)), (1, 1, 1))
        self.assertEqual(met(BOTH, (1, 0, 0), (0, 1, 0)), (0, 0, 0))
        self.assertEqual(joined(EITHER, (1, 0, 1), (0, 1, 1)), (1, 1, 1))
        self.assertEqual(met(EITHER, (1, 0, 1), (0, 1, 1)), (0, 0, 0))

    def test_one_below_the_other(self):
        for one, other in [((0, 0), (1, 1)), ((1, 1), (0, 0))]:
            self.assertEqual(joined(TWO, one, other), (1, 1))
            self.assertEqual(met(TWO, one, other), (0, 0))
        self.assertEqual(joined(HUGE, (0, 1, 0), (0, 1, 1)), (0, 1, 1))
        self.assertEqual(met(HUGE, (0, 1, 0), (0, 1, 1)), (0, 1, 0))

    def test_of_a_rest_and_itself(self):
        for rest in rests(BOTH):
            self.assertEqual((joined(BOTH, rest, rest), met(BOTH, rest, rest)), (rest, rest))

    def test_many_turns_on(self):
        # 0 and 1 hold what they hold; where both hold 1 all down the line from 2 on do, too.
        ties = [(0, 2, 1), (1, 2, 1)] + [(person, person + 1, 5) for person in range(2, 29)]
        web = web_of(30, ties, [0, 0, 3] + [0] * 27, None)
        one, other = (1,) + (0,) * 29, (0, 1) + (0,) * 28
        self.assertEqual(joined(web, one, other), (1,) * 30)
        self.assertEqual(met(web, one, other), (0,) * 30)

    def test_many(self):
        beyond = [0, 0]
        for told, web in families(300):
            every = slow_rests(told)
            for one in every:
                for other in every:
                    above = [rest for rest in every if is_below(one, rest) and is_below(other, rest)]
                    below = [rest for rest in every if is_below(rest, one) and is_below(rest, other)]
                    high, low = joined(web, one, other), met(web, one, other)
                    self.assertIn(high, above)
                    self.assertIn(low, below)
                    self.assertTrue(all(is_below(high, rest) for rest in above))
                    self.assertTrue(all(is_below(rest, low) for rest in below))
                    beyond[0] += high != tuple(map(max, one, other))
                    beyond[1] += low != tuple(map(min, one, other))
        self.assertGreater(min(beyond), 0)

    def test_one_that_is_no_rest(self):
        for ask in [joined, met]:
            for one, other in [((0, 1), (0, 0)), ((0, 0), (0, 1)), ((0, 1), (1, 0)), ((1, 0), (1, 0))]:
                refused(self, NoRest, ask, TWO, one, other)
        for told, web in families(60):
            every = slow_rests(told)
            for stand in stands_of(told):
                if stand not in every:
                    for ask in [joined, met]:
                        refused(self, NoRest, ask, web, stand, every[0])
                        refused(self, NoRest, ask, web, every[-1], stand)

    def test_what_is_no_stand_that_fits(self):
        rest, other = (1, 1, 1, 0), (0, 0, 1, 0)
        self.assertIn(rest, rests(FOUR))
        self.assertNotIn(other, rests(FOUR))
        for thing in no_stands():
            for ask in [joined, met]:
                for good in [rest, other, thing]:
                    refused(self, NoStand, ask, FOUR, thing, good)
                    refused(self, NoStand, ask, FOUR, good, thing)


class TheWhole(unittest.TestCase):

    def test_all_rests_and_pairs_lie_between(self):
        for told, web in families(150):
            for stand in slow_rests(told) + [stand for pair in slow_pairs(told) for stand in pair]:
                self.assertTrue(is_below(least_rest(web), stand))
                self.assertTrue(is_below(stand, greatest_rest(web)))

    def test_each_pair_is_told_once_and_goes_to_and_fro(self):
        for told, web in families(150):
            either = [stand for pair in pairs(web) for stand in pair]
            self.assertEqual(len(either), len(set(either)))
            for one, other in pairs(web):
                self.assertEqual((slow_turn(told, one), slow_turn(told, other)), (other, one))

    def test_a_web_with_more_for_one(self):
        for told, web in families(100):
            webs = list(heavier(told)) + list(lower(told)) + [more for more, person in staying(told)]
            for more in webs:
                self.assertTrue(is_below(least_rest(web), least_rest(web_of(*more))))
                self.assertTrue(is_below(greatest_rest(web), greatest_rest(web_of(*more))))
