import unittest
from copy import deepcopy
from itertools import permutations

from followmost.changes import (differ, exchanged, exchanged_stand, named, named_stand, with_bar, with_stay,
                                with_tie)
from followmost.errors import NoStand, NoWeb
from followmost.webs import web_of
from tests.samples import (FOUR, FOUR_TIES, GREATEST, NO_NUMBERS, Prickly, bars_of, families, no_stands, refused,
                           slow_turn, stands_of)

BARS = [4, 4, 4, 0]
STAYS = [None, None, 1, None]
NO_PEOPLE = [-1, -4, 4, 5, 30, GREATEST, -GREATEST, None, *NO_NUMBERS]
TWO = web_of(2, [(0, 1, 1)], None, None)


def stays_of(told):
    return [None] * told[0] if told[3] is None else told[3]


class WithTie(unittest.TestCase):

    def test_put(self):
        told = web_of(4, FOUR_TIES + [(1, 3, 7)], BARS, STAYS)
        self.assertEqual(with_tie(FOUR, 1, 3, 7), told)
        self.assertEqual(with_tie(FOUR, 3, 1, 7), told)

    def test_changed(self):
        told = web_of(4, [(0, 1, 2), (1, 2, 3), (0, 2, 400)], BARS, STAYS)
        self.assertEqual(with_tie(FOUR, 0, 2, 400), told)
        self.assertEqual(with_tie(FOUR, 2, 0, 400), told)
        self.assertEqual(with_tie(FOUR, 0, 2, 1), FOUR)

    def test_taken_away(self):
        told = web_of(4, [(0, 1, 2), (0, 2, 1)], BARS, STAYS)
        self.assertEqual(with_tie(FOUR, 1, 2, 0), told)
        self.assertEqual(with_tie(FOUR, 2, 1, 0), told)

    def test_taken_away_where_there_is_none(self):
        for other in range(3):
            self.assertEqual(with_tie(FOUR, other, 3, 0), FOUR)
            self.assertEqual(with_tie(FOUR, 3, other, 0), FOUR)

    def test_bars_are_as_they_were(self):
        web = web_of(3, [(0, 1, 2)], None, None)
        self.assertEqual(with_tie(web, 0, 1, 9)[1], (2, 2, 0))
        self.assertEqual(with_tie(web, 0, 1, 0)[1], (2, 2, 0))
        self.assertEqual(with_tie(web, 1, 2, 5)[1], (2, 2, 0))

    def test_weights_at_the_edges(self):
        self.assertEqual(with_tie(TWO, 0, 1, 400)[0], (((1, 400),), ((0, 400),)))
        self.assertEqual(with_tie(TWO, 0, 1, 1), TWO)
        self.assertEqual(with_tie(TWO, 0, 1, 0)[0], ((), ()))

    def test_many(self):
        for told, web in families(100):
            many, ties, bars, stays = told
            for one in range(many):
                for other in range(many):
                    if one != other:
                        for weight in [0, 1, 3, 400]:
                            left = [tie for tie in ties if {one, other} != set(tie[:2])]
                            put = left + [(other, one, weight)] if weight else left
                            self.assertEqual(with_tie(web, one, other, weight),
                                             web_of(many, put, bars_of(told), stays))

    def test_all_thirty_tied(self):
        ties = [(one, other, 1 + one) for one in range(30) for other in range(one)]
        web = web_of(30, ties, None, None)
        changed = with_tie(web, 0, 29, 400)
        self.assertEqual(changed, web_of(30, [tie for tie in ties if tie[:2] != (29, 0)] + [(0, 29, 400)],
                                         list(web[1]), None))

    def test_one_and_itself(self):
        for person in range(4):
            for weight in [0, 1, 7, 400, 401, -1]:
                refused(self, NoWeb, with_tie, FOUR, person, person, weight)

    def test_no_people(self):
        for thing in NO_PEOPLE:
            for weight in [0, 1, 400]:
                refused(self, NoWeb, with_tie, FOUR, thing, 1, weight)
                refused(self, NoWeb, with_tie, FOUR, 1, thing, weight)
                refused(self, NoWeb, with_tie, FOUR, thing, thing, weight)

    def test_no_weights(self):
        for thing in [-1, 401, -400, GREATEST, -GREATEST, None, *NO_NUMBERS]:
            refused(self, NoWeb, with_tie, FOUR, 0, 1, thing)
            refused(self, NoWeb, with_tie, FOUR, 3, 0, thing)
            refused(self, NoWeb, with_tie, FOUR, 0, 0, thing)
            refused(self, NoWeb, with_tie, FOUR, thing, thing, thing)


class WithBar(unittest.TestCase):

    def test_by_hand(self):
        self.assertEqual(with_bar(FOUR, 1, -5), web_of(4, FOUR_TIES, [4, -5, 4, 0], STAYS))
        self.assertEqual(with_bar(FOUR, 3, 0), FOUR)
        self.assertEqual(with_bar(FOUR, 2, 11), web_of(4, FOUR_TIES, [4, 4, 11, 0], STAYS))

    def test_sixty_figures(self):
        for bar in [GREATEST, -GREATEST]:
            self.assertEqual(with_bar(FOUR, 0, bar), web_of(4, FOUR_TIES, [bar, 4, 4, 0], STAYS))

    def test_many(self):
        for told, web in families(100):
            for person in range(told[0]):
                bars = list(bars_of(told))
                bars[person] -= 3
                self.assertEqual(with_bar(web, person, bars[person]), web_of(told[0], told[1], bars, told[3]))

    def test_no_people(self):
        for thing in NO_PEOPLE:
            refused(self, NoWeb, with_bar, FOUR, thing, 1)

    def test_no_bars(self):
        for thing in [None, [1, 2], (4,), *NO_NUMBERS]:
            refused(self, NoWeb, with_bar, FOUR, 0, thing)
            refused(self, NoWeb, with_bar, FOUR, 4, thing)


class WithStay(unittest.TestCase):

    def test_by_hand(self):
        for stay in [None, 0, 1]:
            self.assertEqual(with_stay(FOUR, 0, stay), web_of(4, FOUR_TIES, BARS, [stay, None, 1, None]))
            self.assertEqual(with_stay(FOUR, 2, stay), web_of(4, FOUR_TIES, BARS, [None, None, stay, None]))

    def test_many(self):
        for told, web in families(100):
            for person in range(told[0]):
                for stay in [None, 0, 1]:
                    stays = list(stays_of(told))
                    stays[person] = stay
                    self.assertEqual(with_stay(web, person, stay), web_of(told[0], told[1], bars_of(told), stays))

    def test_no_people(self):
        for thing in NO_PEOPLE:
            for stay in [None, 0, 1]:
                refused(self, NoWeb, with_stay, FOUR, thing, stay)

    def test_no_stays(self):
        for thing in [2, -1, GREATEST, -GREATEST, "free", "None", [None], *NO_NUMBERS]:
            refused(self, NoWeb, with_stay, FOUR, 0, thing)
            refused(self, NoWeb, with_stay, FOUR, 2, thing)
            refused(self, NoWeb, with_stay, FOUR, -1, thing)


class WebsComeOfIt(unittest.TestCase):

    def test_tuples_through_and_through(self):
        for web in [with_tie(FOUR, 0, 3, 5), with_tie(FOUR, 0, 1, 0), with_bar(FOUR, 0, 9), with_stay(FOUR, 0, 1),
                    exchanged(FOUR), named(FOUR, [3, 1, 0, 2])]:
            parts = [web, *web, *web[0], *[tie for row in web[0] for tie in row]]
            self.assertEqual({type(part) for part in parts}, {tuple})

    def test_the_web_handed_in_stays_as_it_was(self):
        before = deepcopy(FOUR)
        with_tie(FOUR, 0, 1, 0)
        with_tie(FOUR, 0, 3, 9)
        with_bar(FOUR, 0, 9)
        with_stay(FOUR, 0, 0)
        exchanged(FOUR)
        named(FOUR, [3, 2, 1, 0])
        for thing in NO_NUMBERS:
            refused(self, NoWeb, with_tie, FOUR, 0, 1, thing)
            refused(self, NoWeb, with_bar, FOUR, 0, thing)
            refused(self, NoWeb, with_stay, FOUR, 0, thing)
        self.assertEqual(FOUR, before)


class Differ(unittest.TestCase):

    def test_by_hand(self):
        line = web_of(3, [(0, 1, 1), (1, 2, 1)], [0, 0, 0], None)
        self.assertEqual(differ(line, (0, 0, 0), line, (1, 0, 0), 0), [(0, 0)])
        self.assertEqual(differ(line, (0, 0, 0), line, (1, 0, 0), 2),
                         [(0, 0), (1, 0), (1, 1), (2, 0), (2, 1), (2, 2)])
        # Nobody holds anything else at first; the bar is lower, so person 0 holds 1 behind one turn.
        other = with_bar(line, 0, -1)
        self.assertEqual(differ(line, (0, 0, 0), other, (0, 0, 0), 0), [])
        self.assertEqual(differ(line, (0, 0, 0), other, (0, 0, 0), 1), [(1, 0)])
        self.assertEqual(differ(other, (0, 0, 0), line, (0, 0, 0), 2), [(1, 0), (2, 0), (2, 1)])

    def test_to_and_fro(self):
        self.assertEqual(differ(TWO, (0, 1), TWO, (1, 0), 1), [(0, 0), (0, 1), (1, 0), (1, 1)])
        self.assertEqual(differ(TWO, (0, 1), TWO, (0, 0), 3), [(0, 1), (1, 0), (2, 1), (3, 0)])

    def test_a_web_beside_itself(self):
        for told, web in families(60):
            for stand in stands_of(told):
                for turns in [0, 1, 7]:
                    self.assertEqual(differ(web, stand, web, stand, turns), [])
        self.assertEqual(differ(TWO, (0, 1), TWO, (0, 1), 100), [])

    def test_a_hundred_turns_and_somewhat_more(self):
        for turns in [99, 100, 101, 450]:
            self.assertEqual(differ(TWO, (0, 1), TWO, (1, 1), turns),
                             [(turn, turn % 2) for turn in range(turns + 1)])

    def test_many(self):
        found = 0
        for place, (told, web) in enumerate(families(120)):
            for change in [lambda: (told[0], told[1][1:], bars_of(told), told[3]),
                           lambda: (told[0], told[1], [bar - 2 for bar in bars_of(told)], told[3]),
                           lambda: (told[0], told[1], told[2], [1] + stays_of(told)[1:])]:
                beside = change()
                for stand in stands_of(told)[:6]:
                    for beyond in stands_of(beside)[:6]:
                        one, other, told_of = stand, beyond, []
                        for turn in range(5):
                            told_of += [(turn, person) for person in range(told[0]) if one[person] != other[person]]
                            one, other = slow_turn(told, one), slow_turn(beside, other)
                        self.assertEqual(differ(web, stand, web_of(*beside), beyond, 4), told_of)
                        self.assertEqual(told_of, sorted(told_of))
                        found += len(told_of)
        self.assertGreater(found, 1000)

    def test_kinds(self):
        answer = differ(TWO, (0, 1), TWO, (1, 0), 1)
        self.assertEqual(type(answer), list)
        self.assertEqual({type(thing) for thing in answer}, {tuple})
        self.assertEqual({type(number) for thing in answer for number in thing}, {int})

    def test_no_stands(self):
        free = web_of(4, FOUR_TIES, BARS, None)
        for thing in no_stands():
            refused(self, NoStand, differ, FOUR, thing, FOUR, (0, 0, 1, 0), 3)
            refused(self, NoStand, differ, FOUR, (0, 0, 1, 0), FOUR, thing, 3)
            refused(self, NoStand, differ, FOUR, thing, free, (0, 0, 0, 0), 0)
            refused(self, NoStand, differ, free, (0, 0, 0, 0), FOUR, thing, 0)

    def test_a_stand_that_fits_the_other_web_alone(self):
        free = web_of(4, FOUR_TIES, BARS, None)
        nought = web_of(4, FOUR_TIES, BARS, [None, None, 0, None])
        refused(self, NoStand, differ, FOUR, (0, 0, 0, 0), free, (0, 0, 1, 0), 2)
        refused(self, NoStand, differ, free, (0, 0, 1, 0), FOUR, (0, 0, 0, 0), 2)
        refused(self, NoStand, differ, FOUR, (0, 0, 0, 0), nought, (0, 0, 1, 0), 2)
        refused(self, NoStand, differ, FOUR, (0, 0, 1, 0), nought, (0, 0, 1, 0), 2)
        refused(self, NoStand, differ, FOUR, (0, 0, 0, 0), nought, (0, 0, 0, 0), 2)
        self.assertEqual(differ(FOUR, (0, 0, 1, 0), nought, (0, 0, 0, 0), 0), [(0, 2)])

    def test_what_was_told_is_the_askers_own(self):
        first = differ(TWO, (0, 1), TWO, (1, 0), 1)
        before = list(first)
        first.clear()
        self.assertEqual(differ(TWO, (0, 1), TWO, (1, 0), 1), before)


class Exchanged(unittest.TestCase):

    def test_by_hand(self):
        self.assertEqual(exchanged(FOUR), web_of(4, FOUR_TIES, [2, 6, 4, 0], [None, None, 0, None]))
        self.assertEqual(exchanged(web_of(2, [(0, 1, 5)], [-3, 11], [0, 1])),
                         web_of(2, [(0, 1, 5)], [13, -1], [1, 0]))
        self.assertEqual(exchanged_stand((0, 0, 1, 0)), (1, 1, 0, 1))
        self.assertEqual(exchanged_stand((1,)), (0,))
        self.assertEqual(exchanged_stand((0,) * 30), (1,) * 30)

    def test_who_follows_the_most_does_so_still(self):
        self.assertEqual(exchanged(TWO), TWO)

    def test_bars_of_sixty_figures(self):
        web = web_of(2, [(0, 1, 400)], [GREATEST, -GREATEST], None)
        self.assertEqual(exchanged(web)[1], (800 - GREATEST, 800 + GREATEST))
        self.assertEqual(exchanged(exchanged(web)), web)

    def test_twice(self):
        for told, web in families(150):
            self.assertEqual(exchanged(exchanged(web)), web)
            for stand in stands_of(told):
                self.assertEqual(exchanged_stand(exchanged_stand(stand)), stand)


class Named(unittest.TestCase):

    def test_by_hand(self):
        # Person 0 becomes 2, 1 becomes 0, 2 becomes 3, 3 becomes 1.
        self.assertEqual(named(FOUR, [2, 0, 3, 1]),
                         web_of(4, [(2, 0, 2), (0, 3, 3), (2, 3, 1)], [4, 0, 4, 4], [None, None, None, 1]))
        self.assertEqual(named_stand((1, 0, 1, 0), [2, 0, 3, 1]), (0, 0, 1, 1))
        self.assertEqual(named_stand((1, 0, 0, 0), [2, 0, 3, 1]), (0, 0, 1, 0))

    def test_others_rise(self):
        star = web_of(4, [(0, 1, 1), (0, 2, 2), (0, 3, 3)], None, None)
        self.assertEqual(named(star, [0, 3, 2, 1])[0], (((1, 3), (2, 2), (3, 1)), ((0, 3),), ((0, 2),), ((0, 1),)))

    def test_all_as_they_were(self):
        self.assertEqual(named(FOUR, [0, 1, 2, 3]), FOUR)
        self.assertEqual(named_stand((1, 0, 1, 0), [0, 1, 2, 3]), (1, 0, 1, 0))
        self.assertEqual(named(web_of(1, [], [3], [1]), [0]), web_of(1, [], [3], [1]))

    def test_by_an_order_and_back(self):
        for told, web in families(80):
            for order in list(permutations(range(told[0])))[::5]:
                back = [order.index(person) for person in range(told[0])]
                self.assertEqual(named(named(web, list(order)), back), web)
                for stand in stands_of(told):
                    self.assertEqual(named_stand(named_stand(stand, list(order)), back), stand)

    def test_many(self):
        for told, web in families(80):
            many, ties, bars, stays = told
            for order in list(permutations(range(many)))[::7]:
                again = web_of(many, [(order[one], order[other], weight) for one, other, weight in ties],
                               [bars_of(told)[order.index(person)] for person in range(many)],
                               [stays_of(told)[order.index(person)] for person in range(many)])
                self.assertEqual(named(web, list(order)), again)
                for stand in stands_of(told):
                    self.assertEqual([named_stand(stand, list(order))[order[person]] for person in range(many)],
                                     list(stand))

    def test_thirty_people(self):
        ties = [(one, other, 1 + (one * 7 + other) % 400) for one in range(30) for other in range(one)]
        web = web_of(30, ties, list(range(30)), None)
        order = [(7 * person + 3) % 30 for person in range(30)]
        again = named(web, order)
        self.assertEqual([again[1][order[person]] for person in range(30)], list(range(30)))
        for one in range(30):
            self.assertEqual(again[0][order[one]], tuple(sorted((order[other], weight) for other, weight in web[0][one])))

    def test_the_order_is_left_as_it_was(self):
        order = [2, 0, 3, 1]
        first = named(FOUR, order), named_stand((1, 0, 1, 0), order)
        self.assertEqual(order, [2, 0, 3, 1])
        order.reverse()
        self.assertEqual((named(FOUR, [2, 0, 3, 1]), named_stand((1, 0, 1, 0), [2, 0, 3, 1])), first)


class KindsThatCanNotBeAsked(unittest.TestCase):

    def test_prickly_things_are_refused_unasked(self):
        refused(self, NoWeb, with_tie, FOUR, Prickly(), Prickly(), Prickly())
        refused(self, NoWeb, with_bar, FOUR, Prickly(), Prickly())
        refused(self, NoWeb, with_stay, FOUR, Prickly(), Prickly())
