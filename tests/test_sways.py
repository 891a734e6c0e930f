import unittest
from copy import deepcopy

from followmost.errors import NoPeople
from followmost.sways import begun, turns_all
from followmost.webs import web_of
from tests.samples import (GREATEST, NO_NUMBERS, Prickly, all_lists, choosable, families, heavier, lower, refused,
                           slow_turn, staying)

# A line of four, each of whom needs one neighbour with 1.
LINE = web_of(4, [(0, 1, 1), (1, 2, 1), (2, 3, 1)], [0, 0, 0, 0], None)
# The same, but person 0 stays with 1 and person 3 with 0.
BETWEEN = web_of(4, [(0, 1, 1), (1, 2, 1), (2, 3, 1)], [1, 1, 1, 1], [1, None, None, 0])
TWO = web_of(2, [(0, 1, 1)], None, None)


class Begun(unittest.TestCase):

    def test_by_hand(self):
        self.assertEqual(begun(LINE, []), (0, 0, 0, 0))
        self.assertEqual(begun(LINE, [2]), (0, 0, 1, 0))
        self.assertEqual(begun(LINE, [0, 3]), (1, 0, 0, 1))
        self.assertEqual(begun(LINE, [0, 1, 2, 3]), (1, 1, 1, 1))

    def test_who_stays_with_one_holds_it_chosen_or_not(self):
        self.assertEqual(begun(BETWEEN, []), (1, 0, 0, 0))
        self.assertEqual(begun(BETWEEN, [0]), (1, 0, 0, 0))
        self.assertEqual(begun(BETWEEN, [2]), (1, 0, 1, 0))
        self.assertEqual(begun(BETWEEN, [0, 1, 2]), (1, 1, 1, 0))

    def test_one_person_and_thirty(self):
        self.assertEqual(begun(web_of(1, [], None, None), []), (0,))
        self.assertEqual(begun(web_of(1, [], None, None), [0]), (1,))
        self.assertEqual(begun(web_of(30, [], None, None), list(range(30))), (1,) * 30)
        self.assertEqual(begun(web_of(30, [], None, None), [0, 29]), (1,) + (0,) * 28 + (1,))

    def test_many(self):
        for told, web in families(150):
            for some in all_lists(web):
                self.assertEqual(begun(web, some), tuple(
                    int(person in some or web[2][person] == 1) for person in range(told[0])))


class TurnsAll(unittest.TestCase):

    def test_turn(self):
        self.assertEqual(turns_all(LINE, [0]),
                         ("turn", [(1, 0, 0, 0), (1, 1, 0, 0), (1, 1, 1, 0), (1, 1, 1, 1)]))
        self.assertEqual(turns_all(LINE, [1]), ("turn", [(0, 1, 0, 0), (1, 1, 1, 0), (1, 1, 1, 1)]))
        self.assertEqual(turns_all(TWO, [0, 1]), ("turn", [(1, 1)]))

    def test_turn_with_nobody_chosen(self):
        web = web_of(3, [(0, 1, 1), (1, 2, 1)], [5, 1, 1], [1, None, None])
        behind = ("turn", [(1, 0, 0), (1, 1, 0), (1, 1, 1)])
        self.assertEqual(turns_all(web, []), behind)
        self.assertEqual(turns_all(web, [0]), behind)
        self.assertEqual(turns_all(web_of(2, [], None, [1, 1]), []), ("turn", [(1, 1)]))
        self.assertEqual(turns_all(web_of(1, [], [-1], None), []), ("turn", [(0,), (1,)]))

    def test_not_at_rest(self):
        self.assertEqual(turns_all(LINE, []), ("not", [(0, 0, 0, 0)]))
        self.assertEqual(turns_all(BETWEEN, []), ("not", [(1, 1, 1, 0)]))
        self.assertEqual(turns_all(BETWEEN, [0, 1, 2]), ("not", [(1, 1, 1, 0)]))
        self.assertEqual(turns_all(web_of(1, [], None, [0]), []), ("not", [(0,)]))

    def test_not_in_a_pair(self):
        for some in [[0], [1]]:
            word, stands = turns_all(TWO, some)
            self.assertEqual((word, sorted(stands)), ("not", [(0, 1), (1, 0)]))
        star = web_of(4, [(0, 1, 1), (0, 2, 1), (0, 3, 1)], None, None)
        word, stands = turns_all(star, [0, 1])
        self.assertEqual((word, sorted(stands)), ("not", [(0, 1, 1, 1), (1, 0, 0, 0)]))

    def test_all_ones_that_are_left_again(self):
        web = web_of(2, [(0, 1, 1)], [10, 1], None)
        self.assertEqual(turns_all(web, [0, 1]), ("not", [(0, 0)]))
        self.assertEqual(turns_all(web_of(1, [], [1], None), [0]), ("not", [(0,)]))
        web = web_of(3, [(0, 1, 1), (1, 2, 5)], [10, 5, 1], None)
        self.assertEqual(turns_all(web, [0, 1, 2]), ("not", [(0, 1, 1)]))

    def test_thirty_people(self):
        line = web_of(30, [(person, person + 1, 1) for person in range(29)], [0] * 30, None)
        stands = [(1,) * (place + 1) + (0,) * (29 - place) for place in range(30)]
        self.assertEqual(turns_all(line, [0]), ("turn", stands))
        self.assertEqual(turns_all(line, list(range(30))), ("turn", [(1,) * 30]))

    def test_bars_of_sixty_figures(self):
        web = web_of(2, [(0, 1, 400)], [-GREATEST, 799], None)
        self.assertEqual(turns_all(web, []), ("turn", [(0, 0), (1, 0), (1, 1)]))
        web = web_of(2, [(0, 1, 400)], [GREATEST, -GREATEST], None)
        self.assertEqual(turns_all(web, [0, 1]), ("not", [(0, 1)]))

    def test_many(self):
        words = []
        for told, web in families(300):
            for some in all_lists(web):
                stands = [begun(web, some)]
                while len(stands) < 3 or stands[-1] != stands[-3]:
                    stands.append(slow_turn(told, stands[-1]))
                word, found = turns_all(web, some)
                if stands[-1] == stands[-2] == (1,) * told[0]:
                    self.assertEqual((word, found), ("turn", stands[:stands.index(stands[-1]) + 1]))
                else:
                    self.assertEqual((word, sorted(found)), ("not", sorted(set(stands[-2:]))))
                words.append((word, len(found)))
        for kind in [("turn", 1), ("turn", 2), ("turn", 3), ("not", 1), ("not", 2)]:
            self.assertIn(kind, words)

    def test_kinds(self):
        for some in [[], [0], [0, 1]]:
            answer = turns_all(TWO, some)
            self.assertEqual([type(thing) for thing in [answer, *answer]], [tuple, str, list])
            self.assertEqual({type(stand) for stand in answer[1]}, {tuple})


class Kept(unittest.TestCase):

    def test_lists_are_kept_apart(self):
        for ask in [begun, turns_all]:
            some = [0, 2]
            first = deepcopy(ask(LINE, some))
            self.assertEqual(some, [0, 2])
            some.append(3)
            self.assertEqual(ask(LINE, [0, 2]), first)
            some.clear()
            self.assertEqual(ask(LINE, [0, 2]), first)

    def test_what_was_told_is_the_askers_own(self):
        for some in [[], [0], [0, 1]]:
            told = turns_all(TWO, some)
            before = deepcopy(told)
            told[1].reverse()
            told[1].append("more")
            self.assertEqual(turns_all(TWO, some), before)

    def test_what_is_refused_is_left_as_it_was(self):
        some = [2, 1, 1]
        refused(self, NoPeople, turns_all, LINE, some)
        self.assertEqual(some, [2, 1, 1])


class Refused(unittest.TestCase):

    def refused(self, web, some):
        refused(self, NoPeople, begun, web, some)
        refused(self, NoPeople, turns_all, web, some)

    def test_that_does_not_rise_or_has_one_twice(self):
        for some in [[1, 0], [0, 2, 1], [3, 2, 1, 0], [0, 0], [1, 1], [0, 1, 1], [3, 3, 3], [0, 1, 2, 3, 3],
                     [2] * 500]:
            self.refused(LINE, some)

    def test_one_who_stays_with_nought(self):
        for some in [[3], [0, 3], [0, 1, 2, 3]]:
            self.refused(BETWEEN, some)
        self.refused(web_of(1, [], None, [0]), [0])

    def test_one_that_is_not_there(self):
        for some in [[4], [-1], [0, 4], [-1, 0], [0, 1, 2, 3, 4], [-4], [GREATEST], [-GREATEST], [0, GREATEST]]:
            self.refused(LINE, some)
        self.refused(web_of(30, [], None, None), list(range(31)))

    def test_things_of_other_kinds_for_a_person(self):
        for thing in NO_NUMBERS + [None]:
            for some in [[thing], [0, thing], [thing, 3], [0, thing, 3], [thing, thing]]:
                self.refused(LINE, some)
                self.refused(BETWEEN, some)

    def test_things_of_other_kinds_for_the_list(self):
        for thing in [None, 0, 1, (), (0,), (0, 1), "01", "0", {0: 1}, {0, 1}, range(2), frozenset(), Prickly()]:
            self.refused(LINE, thing)
        for thing in NO_NUMBERS:
            if thing.__class__ != list:
                self.refused(LINE, thing)


class TheWhole(unittest.TestCase):

    def test_where_some_turn_all_so_do_more(self):
        turned = 0
        for told, web in families(200):
            words = {tuple(some): turns_all(web, some)[0] for some in all_lists(web)}
            for some in words:
                for more in words:
                    if words[some] == "turn" and set(some) <= set(more):
                        self.assertEqual(words[more], "turn")
                        turned += 1
            if words[tuple(choosable(web))] == "not":
                self.assertEqual(set(words.values()), {"not"})
        self.assertGreater(turned, 0)

    def test_a_web_with_more_for_one(self):
        for told, web in families(100):
            webs = list(heavier(told)) + list(lower(told)) + [more for more, person in staying(told)]
            for some in all_lists(web):
                if turns_all(web, some)[0] == "turn":
                    for more in webs:
                        self.assertEqual(turns_all(web_of(*more), some)[0], "turn")

    def test_those_who_turn_all_do_so_turn_by_turn(self):
        for told, web in families(150):
            for some in all_lists(web):
                word, stands = turns_all(web, some)
                everyone = (1,) * told[0]
                if word == "turn":
                    self.assertEqual(stands[0], begun(web, some))
                    self.assertEqual(stands[1:] + [everyone], [slow_turn(told, stand) for stand in stands])
                    self.assertEqual((stands[-1], stands.count(everyone)), (everyone, 1))
                else:
                    self.assertNotIn(everyone, stands)
                    self.assertEqual([slow_turn(told, stand) for stand in stands], stands[::-1])
                    self.assertEqual(len(stands), len(set(stands)))

    def test_nobody_turns_all_where_one_stays_with_nought(self):
        for told, web in families(100):
            if 0 in web[2]:
                for some in all_lists(web):
                    self.assertEqual(turns_all(web, some)[0], "not")
