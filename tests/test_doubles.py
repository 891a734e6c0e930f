import unittest

from followmost.doubles import doubled, halves, whole
from followmost.errors import TooMuch
from followmost.orders import is_rest
from followmost.rests import pairs, rests
from followmost.turns import fits, turn
from followmost.webs import web_of
from tests.samples import GREATEST, families, refused, slow_turn, stands_of


def light(most):
    """The small webs whose weights may be doubled."""
    return [(told, web) for told, web in families(most) if all(tie[2] <= 200 for tie in told[1])]


class Doubled(unittest.TestCase):

    def test_one_person(self):
        self.assertEqual(doubled(web_of(1, [], [5], None)), ((((1, 1),), ((0, 1),)), (11, 11), (None, None)))
        self.assertEqual(doubled(web_of(1, [], [-5], [1])), ((((1, 1),), ((0, 1),)), (-9, -9), (1, 1)))

    def test_by_hand(self):
        web = web_of(3, [(0, 1, 2), (1, 2, 3)], [4, -1, 6], [None, 0, 1])
        self.assertEqual(doubled(web), (
            (((3, 1), (4, 4)), ((3, 4), (4, 1), (5, 6)), ((4, 6), (5, 1)),
             ((0, 1), (1, 4)), ((0, 4), (1, 1), (2, 6)), ((1, 6), (2, 1))),
            (9, -1, 13, 9, -1, 13), (None, 0, 1, None, 0, 1)))

    def test_it_is_a_web(self):
        for told, web in light(150):
            many = told[0]
            twice = doubled(web)
            ties = [(one, other, weight) for one in range(2 * many) for other, weight in twice[0][one] if one < other]
            self.assertEqual(web_of(2 * many, ties, list(twice[1]), list(twice[2])), twice)
            parts = [twice, *twice, *twice[0], *[tie for row in twice[0] for tie in row]]
            self.assertEqual({type(part) for part in parts}, {tuple})

    def test_fifteen_people_and_sixteen(self):
        ties = [(one, other, 200) for one in range(15) for other in range(one)]
        web = doubled(web_of(15, ties, None, [None, 0, 1] * 5))
        for half in range(30):
            person = half % 15
            start = 15 if half < 15 else 0
            self.assertEqual(web[0][half], tuple(
                (start + other, 1 if other == person else 400) for other in range(15)))
        self.assertEqual(web[1:], ((5601,) * 30, (None, 0, 1) * 10))
        for web in [web_of(16, [], None, None), web_of(16, [(0, 1, 1)], None, [0] * 16), web_of(30, [], None, None),
                    web_of(16, [(3, 15, 201)], None, None)]:
            refused(self, TooMuch, doubled, web)

    def test_weights_of_two_hundred_and_one_more(self):
        self.assertEqual(doubled(web_of(2, [(0, 1, 200)], None, None))[0],
                         (((2, 1), (3, 400)), ((2, 400), (3, 1)), ((0, 1), (1, 400)), ((0, 400), (1, 1))))
        for weight in [201, 202, 399, 400]:
            refused(self, TooMuch, doubled, web_of(2, [(0, 1, weight)], None, None))
            refused(self, TooMuch, doubled, web_of(2, [(0, 1, weight)], [0, 0], [0, 1]))
            refused(self, TooMuch, doubled, web_of(15, [(0, 1, 1), (0, 14, 7), (13, 14, weight)], None, None))

    def test_bars_of_sixty_figures(self):
        web = doubled(web_of(2, [(0, 1, 1)], [GREATEST, -GREATEST], None))
        self.assertEqual(web[1], (2 * GREATEST + 1, 1 - 2 * GREATEST) * 2)
        self.assertEqual(rests(web), [(0, 1, 0, 1)])


class Halves(unittest.TestCase):

    def test_by_hand(self):
        self.assertEqual(halves((0, 1, 1, 1, 0, 0)), ((0, 1, 1), (1, 0, 0)))
        self.assertEqual(halves((0, 1)), ((0,), (1,)))
        self.assertEqual(whole((0, 1, 1), (1, 0, 0)), (0, 1, 1, 1, 0, 0))
        self.assertEqual(whole((1,), (0,)), (1, 0))
        self.assertEqual(halves((0,) * 15 + (1,) * 15), ((0,) * 15, (1,) * 15))

    def test_halves_of_the_whole(self):
        for told, web in light(60):
            twice = doubled(web)
            for one in stands_of(told):
                for other in stands_of(told):
                    stand = whole(one, other)
                    self.assertTrue(fits(twice, stand))
                    self.assertEqual(halves(stand), (one, other))
                    self.assertEqual(whole(*halves(stand)), stand)


class Rests(unittest.TestCase):

    def test_at_rest_just_where_each_is_the_turn_of_the_other(self):
        for told, web in light(150):
            twice = doubled(web)
            for one in stands_of(told):
                for other in stands_of(told):
                    each = slow_turn(told, one) == other and slow_turn(told, other) == one
                    self.assertIs(is_rest(twice, whole(one, other)), each)

    def test_each_half_turns_by_the_other(self):
        for told, web in light(60):
            twice = doubled(web)
            for one in stands_of(told):
                for other in stands_of(told):
                    behind = halves(turn(twice, whole(one, other)))
                    self.assertEqual(behind, (slow_turn(told, other), slow_turn(told, one)))

    def test_the_rests_are_the_rests_taken_twice_and_the_pairs_either_way(self):
        paired = 0
        for told, web in light(150):
            either = [halves(stand) for stand in rests(doubled(web))]
            paired += len(pairs(web))
            self.assertEqual(sorted(either), sorted(
                [(rest, rest) for rest in rests(web)] + pairs(web) + [(other, one) for one, other in pairs(web)]))
        self.assertGreater(paired, 0)
