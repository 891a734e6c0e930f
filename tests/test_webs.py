import unittest
from copy import deepcopy
from itertools import permutations

from followmost.errors import MostError, NoWeb
from followmost.webs import web_of, weights_of
from tests.samples import GREATEST, NO_NUMBERS, bars_of, families, strength

TIES = [(0, 1, 2), (2, 1, 3), (3, 0, 400)]


class Made(unittest.TestCase):

    def test_by_hand(self):
        self.assertEqual(
            web_of(4, TIES, [5, -6, 0, 7], [None, 0, 1, None]),
            ((((1, 2), (3, 400)), ((0, 2), (2, 3)), ((1, 3),), ((0, 400),)),
             (5, -6, 0, 7), (None, 0, 1, None)))

    def test_is_tuples_through_and_through(self):
        web = web_of(4, TIES, [5, -6, 0, 7], [None, 0, 1, None])
        parts = [web, *web, *web[0], *[tie for row in web[0] for tie in row]]
        self.assertEqual({type(part) for part in parts}, {tuple})

    def test_one_person(self):
        self.assertEqual(web_of(1, [], None, None), (((),), (0,), (None,)))
        self.assertEqual(web_of(1, [], [-3], [1]), (((),), (-3,), (1,)))

    def test_thirty_people_all_tied(self):
        ties = [(other, one, 1 + (one * other) % 400) for one in range(30) for other in range(one)]
        web = web_of(30, ties, None, None)
        for person in range(30):
            self.assertEqual(web[0][person], tuple(
                (other, 1 + (person * other) % 400) for other in range(30) if other != person))
            self.assertEqual(web[1][person], strength(ties, person))
        self.assertEqual(web[2], (None,) * 30)

    def test_ties_in_any_order_either_way_round(self):
        web = web_of(4, TIES, None, None)
        for order in permutations(TIES):
            for ways in range(8):
                ties = [(other, one, weight) if ways >> place & 1 else (one, other, weight)
                        for place, (one, other, weight) in enumerate(order)]
                self.assertEqual(web_of(4, ties, None, None), web)

    def test_without_bars_each_is_the_sum_of_the_weights(self):
        self.assertEqual(web_of(4, TIES, None, None)[1], (402, 5, 3, 400))
        self.assertEqual(web_of(3, [(0, 2, 1)], None, [0, 1, None])[1], (1, 0, 1))

    def test_without_stays_all_are_none(self):
        self.assertEqual(web_of(4, TIES, [1, 2, 3, 4], None)[2], (None, None, None, None))

    def test_bars_of_sixty_figures(self):
        self.assertEqual(web_of(2, [], [GREATEST, -GREATEST], None)[1], (GREATEST, -GREATEST))

    def test_weights_at_the_edges(self):
        self.assertEqual(web_of(2, [(0, 1, 1)], None, None)[0], (((1, 1),), ((0, 1),)))
        self.assertEqual(web_of(2, [(0, 1, 400)], None, None)[0], (((1, 400),), ((0, 400),)))

    def test_sums_of_weights(self):
        web = web_of(4, TIES, [5, -6, 0, 7], [None, 0, 1, None])
        self.assertEqual([weights_of(web, person) for person in range(4)], [402, 5, 3, 400])
        self.assertEqual(weights_of(web_of(1, [], [9], None), 0), 0)

    def test_many(self):
        for told, web in families(300):
            many, ties, bars, stays = told
            self.assertEqual(web[1], tuple(bars_of(told)))
            self.assertEqual(web[2], (None,) * many if stays is None else tuple(stays))
            for person in range(many):
                near = sorted((one + other - person, weight) for one, other, weight in ties
                              if person in (one, other))
                self.assertEqual(web[0][person], tuple(near))
                self.assertEqual(weights_of(web, person), strength(ties, person))


class Kept(unittest.TestCase):

    def test_nothing_handed_in_is_changed(self):
        handed = (4, list(reversed(TIES)), [4, 3, 2, 1], [None, 1, 0, None])
        before = deepcopy(handed)
        web_of(*handed)
        self.assertEqual(handed, before)

    def test_nothing_refused_is_changed(self):
        handed = (4, TIES + [(1, 0, 5)], [4, 3, 2, 1], [None, 1, 0, None])
        before = deepcopy(handed)
        with self.assertRaises(NoWeb):
            web_of(*handed)
        self.assertEqual(handed, before)

    def test_lists_changed_behind_the_call(self):
        ties, bars, stays = list(TIES), [4, 3, 2, 1], [None, 1, 0, None]
        web = web_of(4, ties, bars, stays)
        ties.clear()
        bars[0] = 99
        stays[0] = 1
        self.assertEqual(web, web_of(4, TIES, [4, 3, 2, 1], [None, 1, 0, None]))
        self.assertEqual(web[1:], ((4, 3, 2, 1), (None, 1, 0, None)))


class Refused(unittest.TestCase):

    def refused(self, many, ties, bars, stays):
        with self.assertRaises(NoWeb) as taken:
            web_of(many, ties, bars, stays)
        self.assertIsInstance(taken.exception, MostError)
        self.assertIsInstance(taken.exception, ValueError)

    def test_how_many(self):
        for many in [0, -1, 31, 32, GREATEST, -GREATEST, 10 ** 5000, None] + NO_NUMBERS:
            self.refused(many, [], None, None)

    def test_thirty_one_with_all_else_right(self):
        self.refused(31, [], [0] * 31, [None] * 31)
        self.refused(0, [], [], [])

    def test_a_truth_for_how_many(self):
        self.refused(True, [], [0], [None])
        self.refused(False, [], [], [])

    def test_ties_that_are_no_list(self):
        for ties in [None, 0, 1, tuple(TIES), {(0, 1, 2): 1}, {(0, 1, 2)}, "012"] + NO_NUMBERS:
            if not isinstance(ties, list):
                self.refused(4, ties, None, None)

    def test_a_tie_that_is_no_tuple_of_three(self):
        things = [[0, 1, 2], (), (0,), (0, 1), (0, 1, 2, 3), (0, 1, 2, None), "012", {0: 1, 1: 2, 2: 3}, 7, None]
        for thing in things + NO_NUMBERS:
            self.refused(4, [thing], None, None)
            self.refused(4, [(2, 3, 1), thing], None, None)

    def test_a_tie_to_nobody_or_oneself(self):
        for one, other in [(0, 4), (4, 0), (0, -1), (-1, 0), (-1, -2), (4, 5), (0, 0), (3, 3),
                           (0, GREATEST), (-GREATEST, 0)]:
            self.refused(4, [(one, other, 1)], None, None)
        self.refused(1, [(0, 0, 1)], None, None)
        self.refused(1, [(0, 1, 1)], None, None)

    def test_a_tie_of_things_of_other_kinds(self):
        for thing in NO_NUMBERS + [None]:
            self.refused(4, [(thing, 2, 1)], None, None)
            self.refused(4, [(2, thing, 1)], None, None)
            self.refused(4, [(2, 3, thing)], None, None)
            self.refused(4, [(thing, thing, thing)], None, None)

    def test_weights_beyond_the_edges(self):
        for weight in [0, 401, -1, -400, GREATEST, -GREATEST, 10 ** 5000]:
            self.refused(2, [(0, 1, weight)], None, None)

    def test_told_twice(self):
        for again in [(0, 1, 2), (1, 0, 2), (0, 1, 7), (1, 0, 7)]:
            self.refused(4, TIES + [again], None, None)
            self.refused(4, [again] + TIES, None, None)

    def test_bars(self):
        for bars in [(1, 2), [1], [1, 2, 3], [], "12", {0: 1, 1: 2}, {1, 2}, 0, 7] + NO_NUMBERS:
            self.refused(2, [], bars, None)
        for thing in NO_NUMBERS + [None]:
            self.refused(2, [], [thing, 2], None)
            self.refused(2, [], [2, thing], None)
            self.refused(1, [], [thing], None)

    def test_stays(self):
        for stays in [(1, 0), [1], [1, 0, None], [], "10", {0: 1, 1: 0}, {1, 0}, 0, 1] + NO_NUMBERS:
            self.refused(2, [], None, stays)
        for thing in NO_NUMBERS + [2, -1, GREATEST, -GREATEST]:
            self.refused(2, [], None, [thing, None])
            self.refused(2, [], None, [1, thing])
            self.refused(1, [], None, [thing])
