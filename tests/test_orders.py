import unittest
from copy import deepcopy

from followmost.errors import NoOrder, NoStand
from followmost.orders import gone, is_rest, settled, weight
from followmost.turns import is_below, pull
from followmost.webs import web_of
from tests.samples import FOUR, GREATEST, drawing, families, heavier, lower, no_stands, refused
from tests.samples import slow_gone, slow_turn, slow_weight, stands_of, staying

# A line of three, each of whom needs one neighbour with 1.
LINE = web_of(3, [(0, 1, 1), (1, 2, 1)], [0, 0, 0], [1, None, None])
TWO = web_of(2, [(0, 1, 1)], None, None)
HUGE = web_of(2, [(0, 1, 400)], [GREATEST, -GREATEST], None)


def orders_of(number, many):
    """Some orders of many people, some of them with people many times or not at all."""
    draw = drawing(number)
    return [[draw(many) for place in range(length)] for length in (0, 1, 3, 7, 12)]


def full_order(number, web):
    """An order with each person who doesn't stay, mixed, with some people more than once."""
    draw = drawing(number)
    order = [person for person, stay in enumerate(web[2]) if stay is None or draw(2)]
    order.extend(draw(len(web[2])) for place in range(draw(4)))
    for place in range(len(order) - 1, 0, -1):
        other = draw(place + 1)
        order[place], order[other] = order[other], order[place]
    return order


def put(stand, changes):
    for place, person, opinion in changes:
        stand = stand[:person] + (opinion,) + stand[person + 1:]
    return stand


class Gone(unittest.TestCase):

    def test_each_by_the_stand_as_it_is_then(self):
        self.assertEqual(gone(LINE, (1, 0, 0), [1, 2]), [(0, 1, 1), (1, 2, 1)])
        self.assertEqual(gone(LINE, (1, 0, 0), [2, 1]), [(1, 1, 1)])
        self.assertEqual(gone(TWO, (0, 1), [0, 1]), [(0, 0, 1)])
        self.assertEqual(gone(TWO, (0, 1), [1, 0]), [(0, 1, 0)])

    def test_people_many_times_and_not_at_all(self):
        self.assertEqual(gone(LINE, (1, 0, 0), [2, 1, 2]), [(1, 1, 1), (2, 2, 1)])
        self.assertEqual(gone(LINE, (1, 0, 0), [2, 2, 2]), [])
        self.assertEqual(gone(LINE, (1, 0, 0), [1, 1, 1, 0, 1]), [(0, 1, 1)])

    def test_one_who_changes_to_and_fro(self):
        web = web_of(2, [(0, 1, 1)], [5, 1], None)
        self.assertEqual(gone(web, (1, 0), [1, 0, 0, 1]), [(0, 1, 1), (1, 0, 0), (3, 1, 0)])

    def test_who_is_pulled_as_much_as_the_bar_is_no_change(self):
        web = web_of(2, [(0, 1, 3)], [6, 6], None)
        for stand in [(0, 1), (1, 1)]:
            self.assertEqual(gone(web, stand, [0]), [])
        self.assertEqual(gone(web, (1, 0), [0]), [(0, 0, 0)])

    def test_of_no_people(self):
        self.assertEqual(gone(LINE, (1, 0, 0), []), [])
        self.assertEqual(gone(TWO, (0, 1), []), [])

    def test_people_who_stay(self):
        web = web_of(3, [(0, 1, 9), (1, 2, 9)], [-5, 500, 0], [0, 1, None])
        self.assertEqual(gone(web, (0, 1, 0), [0, 1, 0, 1]), [])
        self.assertEqual(gone(web, (0, 1, 0), [0, 1, 2, 1]), [(2, 2, 1)])

    def test_of_four_hundred_and_more(self):
        self.assertEqual(gone(LINE, (1, 0, 0), [2] * 398 + [1, 2]), [(398, 1, 1), (399, 2, 1)])
        self.assertEqual(gone(TWO, (0, 1), [0] * 400), [(0, 0, 1)])
        self.assertEqual(gone(LINE, (1, 0, 0), [0] * 400), [])
        self.assertEqual(gone(LINE, (1, 0, 0), [2] * 401 + [1]), [(401, 1, 1)])

    def test_thirty_people(self):
        line = web_of(30, [(person, person + 1, 1) for person in range(29)], [0] * 30, [1] + [None] * 29)
        start = (1,) + (0,) * 29
        self.assertEqual(gone(line, start, list(range(30))), [(person, person, 1) for person in range(1, 30)])
        self.assertEqual(gone(line, start, list(range(29, -1, -1))), [(28, 1, 1)])

    def test_bars_of_sixty_figures(self):
        self.assertEqual(gone(HUGE, (1, 0), [0, 1, 0, 1]), [(0, 0, 0), (1, 1, 1)])

    def test_many(self):
        for number, (told, web) in enumerate(families(150)):
            for stand in stands_of(told):
                for order in orders_of(number, told[0]):
                    self.assertEqual(gone(web, stand, order), slow_gone(told, stand, order)[0])

    def test_lists_are_kept_apart(self):
        order = [2, 1, 2, 0]
        before = deepcopy(order)
        changes = gone(LINE, (1, 0, 0), order)
        self.assertEqual(order, before)
        self.assertEqual([type(changes), type(changes[0])], [list, tuple])
        changes.append("more")
        order.clear()
        self.assertEqual(gone(LINE, (1, 0, 0), before), [(1, 1, 1), (2, 2, 1)])
        self.assertEqual(gone(LINE, (1, 0, 0), order), [])


class Weights(unittest.TestCase):

    def test_by_hand(self):
        web = web_of(4, [(0, 1, 2), (1, 2, 3), (0, 2, 1)], [4, -1, 6, 9], None)
        self.assertEqual(weight(web, (0, 0, 0, 0)), 0)
        self.assertEqual(weight(web, (1, 0, 0, 0)), 4)
        self.assertEqual(weight(web, (0, 1, 0, 1)), 8)
        self.assertEqual(weight(web, (1, 1, 0, 0)), 3 - 2 * 2)
        self.assertEqual(weight(web, (0, 1, 1, 0)), 5 - 2 * 3)
        self.assertEqual(weight(web, (1, 1, 1, 1)), 18 - 2 * 6)

    def test_those_who_stay_count_too(self):
        self.assertEqual(weight(FOUR, (0, 0, 1, 0)), 4)
        self.assertEqual(weight(FOUR, (0, 1, 1, 1)), 8 - 2 * 3)

    def test_bars_of_sixty_figures(self):
        self.assertEqual([weight(HUGE, stand) for stand in [(0, 0), (1, 0), (0, 1), (1, 1)]],
                         [0, GREATEST, -GREATEST, -800])

    def test_many(self):
        for told, web in families(300):
            for stand in stands_of(told):
                self.assertEqual(weight(web, stand), slow_weight(told, stand))

    def test_each_change_lessens_it(self):
        for number, (told, web) in enumerate(families(100)):
            for stand in stands_of(told):
                for order in orders_of(number, told[0]):
                    held = stand
                    for change in gone(web, stand, order):
                        behind = put(held, [change])
                        less = weight(web, held) - weight(web, behind)
                        self.assertEqual(less, abs(pull(web, held, change[1]) - web[1][change[1]]))
                        self.assertGreaterEqual(less, 1)
                        held = behind


class AtRest(unittest.TestCase):

    def test_by_hand(self):
        self.assertIs(is_rest(LINE, (1, 1, 1)), True)
        self.assertIs(is_rest(LINE, (1, 0, 0)), False)
        self.assertIs(is_rest(TWO, (0, 1)), False)
        self.assertIs(is_rest(TWO, (0, 0)), True)
        self.assertIs(is_rest(web_of(2, [(0, 1, 9)], [-5, 500], [0, 1]), (0, 1)), True)
        self.assertIs(is_rest(web_of(1, [], [0], None), (1,)), True)
        self.assertIs(is_rest(web_of(1, [], [1], None), (1,)), False)
        self.assertIs(is_rest(HUGE, (0, 1)), True)
        self.assertIs(is_rest(HUGE, (1, 1)), False)

    def test_many(self):
        for told, web in families(300):
            for stand in stands_of(told):
                self.assertIs(is_rest(web, stand), slow_turn(told, stand) == stand)


class Settled(unittest.TestCase):

    def test_by_hand(self):
        self.assertEqual(settled(LINE, (1, 0, 0), [1, 2]), (1, (1, 1, 1)))
        self.assertEqual(settled(LINE, (1, 0, 0), [2, 1]), (2, (1, 1, 1)))
        self.assertEqual(settled(TWO, (0, 1), [0, 1]), (1, (1, 1)))
        self.assertEqual(settled(TWO, (0, 1), [1, 0]), (1, (0, 0)))
        self.assertEqual(settled(HUGE, (1, 0), [1, 0]), (1, (0, 1)))

    def test_a_stand_at_rest_in_no_rounds(self):
        self.assertEqual(settled(LINE, (1, 1, 1), [2, 1]), (0, (1, 1, 1)))
        self.assertEqual(settled(TWO, (1, 1), [0, 1, 1]), (0, (1, 1)))
        for number, (told, web) in enumerate(families(100)):
            for stand in stands_of(told):
                rounds, rest = settled(web, stand, full_order(number, web))
                self.assertEqual(rounds == 0, slow_turn(told, stand) == stand)
                if rounds == 0:
                    self.assertEqual(rest, stand)

    def test_people_who_stay_may_lack(self):
        self.assertEqual(settled(LINE, (1, 0, 0), [0, 2, 1]), (2, (1, 1, 1)))
        web = web_of(3, [(0, 1, 1), (1, 2, 1)], [0, 0, 0], [1, None, 0])
        for order in [[1], [0, 1], [1, 2], [2, 1, 0]]:
            self.assertEqual(settled(web, (1, 0, 0), order), (1, (1, 1, 0)))

    def test_all_stay(self):
        web = web_of(2, [(0, 1, 9)], [-5, 500], [0, 1])
        for order in [[], [0], [1, 0, 1]]:
            self.assertEqual(settled(web, (0, 1), order), (0, (0, 1)))

    def test_an_order_that_lacks_one(self):
        for order in [[], [0], [1], [0, 1], [2, 2], [1] * 400]:
            refused(self, NoOrder, settled, LINE, (1, 0, 0), order)
            refused(self, NoOrder, settled, LINE, (1, 1, 1), order)
        for told, web in families(60):
            every = [person for person, stay in enumerate(web[2]) if stay is None]
            for lacking in every:
                order = [person for person in range(told[0]) if person != lacking]
                refused(self, NoOrder, settled, web, stands_of(told)[0], order)

    def test_no_stand_goes_ahead_of_no_order(self):
        for order in [[], [1], [1, 2]]:
            for thing in [(0, 0, 0), (1, 0), [1, 0, 0], None]:
                refused(self, NoStand, settled, LINE, thing, order)

    def test_down_a_long_line(self):
        line = web_of(30, [(person, person + 1, 1) for person in range(29)], [0] * 30, [1] + [None] * 29)
        start = (1,) + (0,) * 29
        self.assertEqual(settled(line, start, list(range(29, 0, -1))), (29, (1,) * 30))
        self.assertEqual(settled(line, start, list(range(30))), (1, (1,) * 30))
        self.assertEqual(settled(line, start, (list(range(29, -1, -1)) * 14)[:400]), (3, (1,) * 30))

    def test_many(self):
        for number, (told, web) in enumerate(families(150)):
            order = full_order(number, web)
            for stand in stands_of(told):
                rounds, rest = 0, stand
                changes, behind = slow_gone(told, rest, order)
                while changes:
                    rounds, rest = rounds + 1, behind
                    changes, behind = slow_gone(told, rest, order)
                answer = settled(web, stand, order)
                self.assertEqual(answer, (rounds, rest))
                self.assertEqual([type(part) for part in answer], [int, tuple])

    def test_lists_are_kept_apart(self):
        order = [2, 1]
        self.assertEqual(settled(LINE, (1, 0, 0), order), (2, (1, 1, 1)))
        self.assertEqual(order, [2, 1])
        order.reverse()
        self.assertEqual(settled(LINE, (1, 0, 0), [2, 1]), (2, (1, 1, 1)))
        self.assertEqual(settled(LINE, (1, 0, 0), order), (1, (1, 1, 1)))


class Refused(unittest.TestCase):

    def test_what_is_no_stand_that_fits(self):
        for thing in no_stands():
            for order in [[], [0, 1, 3], [0]]:
                refused(self, NoStand, gone, FOUR, thing, order)
                refused(self, NoStand, settled, FOUR, thing, order)
            refused(self, NoStand, weight, FOUR, thing)
            refused(self, NoStand, is_rest, FOUR, thing)


class TheWhole(unittest.TestCase):

    def test_each_history_comes_to_rest_its_weight_falling(self):
        for number, (told, web) in enumerate(families(150)):
            order = full_order(number, web)
            for stand in stands_of(told):
                rounds, rest = settled(web, stand, order)
                self.assertEqual(slow_turn(told, rest), rest)
                self.assertLessEqual(weight(web, rest), weight(web, stand) - rounds)

    def above(self, order, web, more, stand, start):
        for length in range(len(order) + 1):
            low = put(stand, gone(web, stand, order[:length]))
            self.assertTrue(is_below(low, put(start, gone(more, start, order[:length]))))
        self.assertTrue(is_below(settled(web, stand, order)[1], settled(more, start, order)[1]))

    def test_more_ones_at_the_start(self):
        for number, (told, web) in enumerate(families(60)):
            stands = stands_of(told)
            for one in stands:
                for other in stands:
                    if is_below(one, other):
                        self.above(full_order(number, web), web, web, one, other)

    def test_a_web_with_more_for_one(self):
        for number, (told, web) in enumerate(families(60)):
            order = full_order(number, web)
            for stand in stands_of(told):
                for more in list(heavier(told)) + list(lower(told)):
                    self.above(order, web, web_of(*more), stand, stand)
                for more, person in staying(told):
                    self.above(order, web, web_of(*more), stand, stand[:person] + (1,) + stand[person + 1:])
