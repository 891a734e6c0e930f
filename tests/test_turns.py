import unittest

from followmost.errors import MostError, NoStand
from followmost.histories import ended, history, sums
from followmost.turns import fits, is_below, next_of, pull, turn
from followmost.webs import web_of
from tests.samples import FOUR as WEB, FOUR_TIES as TIES, GREATEST, Prickly, families, no_stands
from tests.samples import slow_pull, slow_turn, stands_of


class Fitting(unittest.TestCase):

    def test_those_that_fit(self):
        self.assertIs(fits(WEB, (0, 0, 1, 0)), True)
        self.assertIs(fits(WEB, (1, 1, 1, 1)), True)
        self.assertIs(fits(web_of(2, [], None, [0, 1]), (0, 1)), True)
        self.assertIs(fits(web_of(1, [], None, None), (1,)), True)

    def test_who_stays_holds_that(self):
        self.assertIs(fits(WEB, (0, 0, 0, 0)), False)
        for stand in [(0, 0), (1, 1), (1, 0)]:
            self.assertIs(fits(web_of(2, [], None, [0, 1]), stand), False)

    def test_all_that_fit_and_no_more(self):
        for told, web in families(100):
            every = stands_of((told[0], told[1], told[2], None))
            self.assertEqual([stand for stand in every if fits(web, stand)], stands_of(told))

    def test_other_things_do_not_fit(self):
        for thing in no_stands():
            self.assertIs(fits(WEB, thing), False)

    def test_other_things_are_refused(self):
        for thing in no_stands():
            for ask in [lambda: pull(WEB, thing, 0), lambda: next_of(WEB, thing, 0), lambda: turn(WEB, thing),
                        lambda: history(WEB, thing, 0), lambda: history(WEB, thing, 3),
                        lambda: ended(WEB, thing), lambda: sums(WEB, [thing]),
                        lambda: next_of(WEB, thing, 2)]:
                with self.assertRaises(NoStand) as taken:
                    ask()
                self.assertIsInstance(taken.exception, MostError)
                self.assertIsInstance(taken.exception, ValueError)

    def test_nothing_is_a_stand_of_another_length(self):
        web = web_of(30, [], None, None)
        self.assertIs(fits(web, (0,) * 30), True)
        self.assertIs(fits(web, (0,) * 29), False)
        self.assertIs(fits(web, (0,) * 31), False)


class Pulls(unittest.TestCase):

    def test_by_hand(self):
        self.assertEqual([pull(WEB, (0, 1, 1, 0), person) for person in range(4)], [6, 6, 6, 0])
        self.assertEqual([pull(WEB, (1, 0, 1, 1), person) for person in range(4)], [2, 10, 2, 0])

    def test_ones_own_opinion_does_not_pull(self):
        self.assertEqual(pull(web_of(2, [(0, 1, 5)], None, None), (1, 0), 0), 0)

    def test_many(self):
        for told, web in families(150):
            for stand in stands_of(told):
                self.assertEqual([pull(web, stand, person) for person in range(told[0])],
                                 [slow_pull(told, stand, person) for person in range(told[0])])


class Turns(unittest.TestCase):

    def test_more_less_and_the_same(self):
        stand = (0, 1, 1)
        for bar, opinion in [(9, 1), (10, 0), (11, 0)]:
            web = web_of(3, [(0, 1, 2), (0, 2, 3)], [bar, 0, 0], None)
            self.assertEqual(pull(web, stand, 0), 10)
            self.assertEqual(next_of(web, stand, 0), opinion)
        for bar, opinion in [(9, 1), (10, 1), (11, 0)]:
            web = web_of(3, [(0, 1, 2), (0, 2, 3)], [bar, 0, 0], None)
            self.assertEqual(next_of(web, (1, 1, 1), 0), opinion)

    def test_who_follows_the_most(self):
        web = web_of(4, [(0, 1, 1), (0, 2, 1), (0, 3, 2)], None, None)
        self.assertEqual(next_of(web, (0, 1, 0, 1), 0), 1)
        self.assertEqual(next_of(web, (1, 1, 0, 0), 0), 0)
        self.assertEqual(next_of(web, (0, 1, 1, 0), 0), 0)
        self.assertEqual(next_of(web, (1, 1, 1, 0), 0), 1)

    def test_who_stays_is_moved_by_nothing(self):
        web = web_of(3, [(0, 1, 400), (0, 2, 400)], [-5, 5000, 5], [0, 1, None])
        self.assertEqual(next_of(web, (0, 1, 1), 0), 0)
        self.assertEqual(next_of(web, (0, 1, 0), 1), 1)
        self.assertEqual(turn(web, (0, 1, 1)), (0, 1, 0))

    def test_all_at_once(self):
        self.assertEqual(turn(web_of(2, [(0, 1, 1)], None, None), (1, 0)), (0, 1))
        line = web_of(4, [(0, 1, 1), (1, 2, 1), (2, 3, 1)], [0, 0, 0, 0], None)
        self.assertEqual(turn(line, (1, 0, 0, 0)), (1, 1, 0, 0))
        self.assertEqual(turn(WEB, (0, 0, 1, 0)), (0, 1, 1, 0))

    def test_bars_of_sixty_figures(self):
        web = web_of(2, [(0, 1, 400)], [GREATEST, -GREATEST], None)
        for stand in stands_of((2, [], None, None)):
            self.assertEqual(turn(web, stand), (0, 1))

    def test_many(self):
        for told, web in families(300):
            for stand in stands_of(told):
                behind = turn(web, stand)
                self.assertEqual(behind, slow_turn(told, stand))
                self.assertEqual(behind, tuple(next_of(web, stand, person) for person in range(told[0])))
                self.assertIs(type(behind), tuple)
                self.assertTrue(fits(web, behind))

    def test_nothing_handed_in_is_needed_or_kept(self):
        stand = (0, 0, 1, 0)
        self.assertEqual([turn(WEB, stand), turn(WEB, (1, 1, 1, 1)), turn(WEB, stand)],
                         [(0, 1, 1, 0), (1, 1, 1, 1), (0, 1, 1, 0)])
        self.assertEqual(stand, (0, 0, 1, 0))
        self.assertEqual(WEB, web_of(4, TIES, [4, 4, 4, 0], [None, None, 1, None]))


class Below(unittest.TestCase):

    def test_by_hand(self):
        self.assertIs(is_below((0, 0, 1), (1, 0, 1)), True)
        self.assertIs(is_below((1, 0, 1), (0, 0, 1)), False)
        self.assertIs(is_below((0, 1), (1, 0)), False)
        self.assertIs(is_below((1, 0), (0, 1)), False)
        self.assertIs(is_below((0, 1), (0, 1)), True)
        self.assertIs(is_below((1, 1, 0), (1, 1, 1)), True)
        self.assertIs(is_below((1, 1, 1), (1, 1, 0)), False)
        self.assertIs(is_below((0,), (1,)), True)
        self.assertIs(is_below((1,), (0,)), False)

    def test_all_of_three(self):
        every = stands_of((3, [], None, None))
        for one in every:
            for other in every:
                ones = {place for place in range(3) if one[place]}
                self.assertIs(is_below(one, other), ones <= {place for place in range(3) if other[place]})

    def test_below_behind_each_turn(self):
        for told, web in families(150):
            stands = stands_of(told)
            for one in stands:
                for other in stands:
                    if is_below(one, other):
                        self.assertTrue(is_below(turn(web, one), turn(web, other)))


class Unasked(unittest.TestCase):

    def test_a_prickly_thing_is_never_asked(self):
        thing = Prickly()
        self.assertIs(fits(WEB, thing), False)
        self.assertIs(fits(WEB, (thing, thing, thing, thing)), False)
