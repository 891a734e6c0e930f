"""Each sentence of what is promised over the whole program, for small webs, by what the program tells."""

import unittest
from itertools import permutations, product

from followmost.changes import (differ, exchanged, exchanged_stand, named, named_stand, with_bar, with_stay,
                                with_tie)
from followmost.desk import Desk
from followmost.doubles import doubled, halves, whole
from followmost.fewest import fewest, tree_holds
from followmost.histories import ended, history, sums
from followmost.orders import gone, is_rest, settled, weight
from followmost.rests import greatest_rest, joined, least_rest, met, pairs, rests
from followmost.sways import begun, turns_all
from followmost.texts import read_stand, read_web, show_stand, show_web
from followmost.turns import fits, is_below, next_of, pull, turn
from followmost.webs import web_of, weights_of
from tests.samples import GREATEST, all_lists, choosable, families, stands_of

# With bars of sixty figures, as it is handed to web_of.
FAR = (4, [(0, 1, 400), (1, 2, 1), (2, 3, 7)], [GREATEST, -GREATEST, 1 - GREATEST, 5], None)


def webs(most):
    return families(most) + [(FAR, web_of(*FAR))]


def names(many):
    """Some orders of so many people: round, back to front, and a few others."""
    every = [list(order) for order in permutations(range(many))]
    return every[1::17] + [every[-1], [(person + 1) % many for person in range(many)]]


def more_of(web):
    """The web with a heavier tie, a lower bar, one more who stays with 1: each that there is."""
    for one in range(len(web[0])):
        for other, heft in web[0][one]:
            if heft < 400:
                yield with_tie(web, one, other, min(400, heft + 3))
        yield with_bar(web, one, web[1][one] - 2)
        if web[2][one] is None:
            yield with_stay(web, one, 1)


def put_in(web, stand):
    """The stand with those who stay with 1 in the web holding that."""
    return tuple(1 if stay == 1 else opinion for stay, opinion in zip(web[2], stand))


def renamed(tree, order):
    """The tree with its people named anew, in the order in which they then rise."""
    if tree is None or tree[0] == "leaf":
        return tree
    found = sorted((order[person], renamed(inner, order)) for person, inner in zip(tree[1], tree[2]))
    return ("part", [person for person, inner in found], [inner for person, inner in found])


class Endings(unittest.TestCase):

    def test_each_history_at_once_comes_to_rest_or_goes_to_and_fro(self):
        for told, web in webs(150):
            for stand in stands_of(told):
                turns, word, stands = ended(web, stand)
                self.assertEqual(stands, history(web, stand, turns + 1))
                self.assertEqual(turn(web, stands[-1]), stands[-2])
                self.assertEqual(word, "rest" if stands[-1] == stands[-2] else "pair")
                self.assertEqual(is_rest(web, stands[-1]), word == "rest")

    def test_sums_never_rise_and_fall_where_a_stand_is_not_the_one_two_turns_ahead(self):
        for told, web in webs(150):
            for stand in stands_of(told):
                stands = history(web, stand, ended(web, stand)[0] + 4)
                found = sums(web, stands)
                for place in range(len(found) - 1):
                    others = sum(one != other for one, other in zip(stands[place], stands[place + 2]))
                    self.assertGreaterEqual(found[place] - found[place + 1], others)
                    if others == 0:
                        self.assertEqual(found[place], found[place + 1])

    def test_one_by_one_each_comes_to_rest_its_weight_falling(self):
        for told, web in webs(80):
            for order in names(told[0]):
                for stand in stands_of(told):
                    held = stand
                    for place, person, opinion in gone(web, stand, order * 8):
                        later = held[:person] + (opinion,) + held[person + 1:]
                        self.assertLess(weight(web, later), weight(web, held))
                        held = later
                    self.assertEqual(settled(web, stand, order)[1], held)
                    self.assertTrue(is_rest(web, held))


class More(unittest.TestCase):

    def test_more_ones_at_the_start(self):
        for told, web in webs(80):
            for one, other in product(stands_of(told), repeat=2):
                if is_below(one, other):
                    turns = max(ended(web, one)[0], ended(web, other)[0]) + 2
                    for low, high in zip(history(web, one, turns), history(web, other, turns)):
                        self.assertTrue(is_below(low, high))

    def test_a_heavier_tie_a_lower_bar_one_more_who_stays_with_one(self):
        for told, web in webs(60):
            for more in more_of(web):
                for stand in stands_of(told):
                    start = put_in(more, stand)
                    for low, high in zip(history(web, stand, 6), history(more, start, 6)):
                        self.assertTrue(is_below(low, high))
                    for place, person in differ(web, stand, more, start, 6):
                        self.assertEqual(history(more, start, place)[place][person], 1)
                self.assertTrue(is_below(least_rest(web), least_rest(more)))
                self.assertTrue(is_below(greatest_rest(web), greatest_rest(more)))

    def test_those_who_turn_all_do_so_with_more(self):
        for told, web in webs(60):
            for more in more_of(web):
                for some in all_lists(web):
                    if turns_all(web, some)[0] == "turn":
                        self.assertEqual(turns_all(more, some)[0], "turn")
                if fewest(web) is not None:
                    self.assertLessEqual(len(fewest(more)[0]), len(fewest(web)[0]))


class Rests(unittest.TestCase):

    def test_all_lie_between_the_least_and_the_greatest(self):
        for told, web in webs(150):
            found = rests(web)
            self.assertEqual(found, [stand for stand in stands_of(told) if turn(web, stand) == stand])
            self.assertIn(least_rest(web), found)
            self.assertIn(greatest_rest(web), found)
            for rest in found:
                self.assertTrue(is_below(least_rest(web), rest) and is_below(rest, greatest_rest(web)))

    def test_the_least_above_two_and_the_greatest_below_two(self):
        for told, web in webs(100):
            found = rests(web)
            for one, other in product(found, repeat=2):
                above = [rest for rest in found if is_below(one, rest) and is_below(other, rest)]
                below = [rest for rest in found if is_below(rest, one) and is_below(rest, other)]
                self.assertIn(joined(web, one, other), above)
                self.assertTrue(all(is_below(joined(web, one, other), rest) for rest in above))
                self.assertIn(met(web, one, other), below)
                self.assertTrue(all(is_below(rest, met(web, one, other)) for rest in below))

    def test_the_doubled_web(self):
        for told, web in families(100):
            if max([heft for row in web[0] for other, heft in row], default=0) <= 200:
                twice = [whole(rest, rest) for rest in rests(web)]
                to_and_fro = [whole(one, other) for one, other in pairs(web)]
                back = [whole(other, one) for one, other in pairs(web)]
                self.assertEqual(rests(doubled(web)), sorted(twice + to_and_fro + back))
                for rest in rests(doubled(web)):
                    self.assertEqual(whole(*halves(rest)), rest)


class All(unittest.TestCase):

    def test_people_told_to_turn_all_do_so(self):
        for told, web in webs(100):
            everyone = (1,) * told[0]
            for some in all_lists(web):
                word, stands = turns_all(web, some)
                if word == "turn":
                    self.assertEqual(stands, history(web, begun(web, some), len(stands) - 1))
                    self.assertEqual(stands.index(everyone), len(stands) - 1)
                    self.assertEqual(turn(web, everyone), everyone)
                else:
                    self.assertNotIn(everyone, stands)
                    self.assertEqual(sorted(stands), sorted(set(ended(web, begun(web, some))[2][-2:])))

    def test_the_fewest_come_with_a_paper(self):
        for told, web in webs(150):
            answer = fewest(web)
            lists = [some for some in all_lists(web) if turns_all(web, some)[0] == "turn"]
            if answer is None:
                self.assertEqual(lists, [])
                self.assertEqual(turns_all(web, choosable(web))[0], "not")
            else:
                self.assertIn(answer[0], lists)
                self.assertEqual(len(answer[0]), min(map(len, lists)))
                if answer[0]:
                    self.assertIs(tree_holds(web, len(answer[0]) - 1, answer[1]), True)
                    self.assertIs(tree_holds(web, len(answer[0]), answer[1]), False)


class OpinionsExchanged(unittest.TestCase):

    def test_stands_and_histories(self):
        for told, web in webs(120):
            back = exchanged(web)
            for stand in stands_of(told):
                there = exchanged_stand(stand)
                self.assertTrue(fits(back, there))
                self.assertEqual(history(back, there, 5), [exchanged_stand(held) for held in history(web, stand, 5)])
                turns, word, stands = ended(web, stand)
                self.assertEqual(ended(back, there), (turns, word, [exchanged_stand(held) for held in stands]))
                self.assertEqual(is_rest(back, there), is_rest(web, stand))
                for person in range(told[0]):
                    self.assertEqual(pull(back, there, person), 2 * weights_of(web, person) - pull(web, stand, person))
                    self.assertEqual(next_of(back, there, person), 1 - next_of(web, stand, person))
                order = list(range(told[0])) * 2
                self.assertEqual(gone(back, there, order), [(place, person, 1 - opinion) for place, person, opinion
                                                            in gone(web, stand, order)])
                rounds, rest = settled(web, stand, order)
                self.assertEqual(settled(back, there, order), (rounds, exchanged_stand(rest)))

    def test_weights_and_sums_fall_as_they_fell(self):
        for told, web in webs(80):
            back = exchanged(web)
            stands = stands_of(told)
            over = {weight(back, exchanged_stand(stand)) - weight(web, stand) for stand in stands}
            self.assertEqual(len(over), 1)
            there = [exchanged_stand(stand) for stand in stands]
            over = {one - other for one, other in zip(sums(back, there), sums(web, stands))}
            self.assertLessEqual(len(over), 1)

    def test_rests_and_pairs(self):
        for told, web in webs(120):
            back = exchanged(web)
            self.assertEqual(least_rest(back), exchanged_stand(greatest_rest(web)))
            self.assertEqual(greatest_rest(back), exchanged_stand(least_rest(web)))
            self.assertEqual(rests(back), sorted(exchanged_stand(rest) for rest in rests(web)))
            self.assertEqual(pairs(back), sorted((exchanged_stand(other), exchanged_stand(one))
                                                 for one, other in pairs(web)))
            for one, other in product(rests(web), repeat=2):
                there = [exchanged_stand(one), exchanged_stand(other)]
                self.assertEqual(joined(back, *there), exchanged_stand(met(web, one, other)))
                self.assertEqual(met(back, *there), exchanged_stand(joined(web, one, other)))

    def test_the_doubled_web_and_differences(self):
        for told, web in families(80):
            if max([heft for row in web[0] for other, heft in row], default=0) <= 200:
                self.assertEqual(doubled(exchanged(web)), exchanged(doubled(web)))
            other = with_bar(web, 0, web[1][0] + 1)
            for stand in stands_of(told):
                there = exchanged_stand(stand)
                self.assertEqual(differ(exchanged(web), there, exchanged(other), there, 5),
                                 differ(web, stand, other, stand, 5))


class PeopleNamedAnew(unittest.TestCase):

    def test_stands_and_histories(self):
        for told, web in webs(60):
            for order in names(told[0]):
                back = named(web, order)
                walk = list(range(told[0])) * 2
                again = [order[person] for person in walk]
                for stand in stands_of(told):
                    there = named_stand(stand, order)
                    self.assertTrue(fits(back, there))
                    self.assertEqual(history(back, there, 4),
                                     [named_stand(held, order) for held in history(web, stand, 4)])
                    turns, word, stands = ended(web, stand)
                    self.assertEqual(ended(back, there), (turns, word, [named_stand(held, order) for held in stands]))
                    self.assertEqual(sums(back, [there, there]), sums(web, [stand, stand]))
                    self.assertEqual(weight(back, there), weight(web, stand))
                    self.assertEqual(gone(back, there, again), [(place, order[person], opinion) for place, person, opinion
                                                                in gone(web, stand, walk)])
                    rounds, rest = settled(web, stand, walk)
                    self.assertEqual(settled(back, there, again), (rounds, named_stand(rest, order)))
                    for person in range(told[0]):
                        self.assertEqual(pull(back, there, order[person]), pull(web, stand, person))

    def test_rests_and_pairs(self):
        for told, web in webs(60):
            for order in names(told[0]):
                back = named(web, order)
                self.assertEqual(least_rest(back), named_stand(least_rest(web), order))
                self.assertEqual(greatest_rest(back), named_stand(greatest_rest(web), order))
                self.assertEqual(rests(back), sorted(named_stand(rest, order) for rest in rests(web)))
                self.assertEqual(pairs(back), sorted(tuple(sorted([named_stand(one, order), named_stand(other, order)]))
                                                     for one, other in pairs(web)))

    def test_who_turns_all(self):
        for told, web in webs(60):
            for order in names(told[0]):
                back = named(web, order)
                for some in all_lists(web):
                    word, stands = turns_all(web, some)
                    found, there = turns_all(back, sorted(order[person] for person in some))
                    self.assertEqual((found, sorted(there)), (word, sorted(named_stand(held, order) for held in stands)))
                answer, again = fewest(web), fewest(back)
                self.assertEqual(answer is None, again is None)
                if answer is not None:
                    self.assertEqual(len(answer[0]), len(again[0]))
                    if answer[0]:
                        self.assertIs(tree_holds(back, len(answer[0]) - 1, renamed(answer[1], order)), True)

    def test_changes(self):
        for told, web in families(60):
            for order in names(told[0]):
                back = named(web, order)
                self.assertEqual(named(exchanged(web), order), exchanged(back))
                self.assertEqual(named(with_bar(web, 0, 9), order), with_bar(back, order[0], 9))
                self.assertEqual(named(with_stay(web, 0, 1), order), with_stay(back, order[0], 1))
                if told[0] > 1:
                    self.assertEqual(named(with_tie(web, 0, 1, 9), order), with_tie(back, order[0], order[1], 9))


class OneText(unittest.TestCase):

    def test_each_web_has_just_one_text(self):
        texts = {}
        for told, web in webs(200):
            self.assertEqual(read_web(show_web(web)), web)
            self.assertEqual(texts.setdefault(show_web(web), web), web)
            for stand in stands_of(told):
                self.assertEqual(read_stand(web, show_stand(stand)), stand)

    def test_a_web_that_is_changed_to_and_fro_has_its_text_again(self):
        for told, web in webs(60):
            desk = Desk(show_web(web))
            for one in range(told[0]):
                stay = "free" if web[2][one] is None else web[2][one]
                for row in [f"bar {one} 5", f"bar {one} {web[1][one]}", f"stay {one} 1", f"stay {one} {stay}"]:
                    self.assertEqual(desk.say(row), "ok")
                for other, heft in web[0][one]:
                    for row in [f"tie {one} {other} 0", f"tie {other} {one} {heft}"]:
                        self.assertEqual(desk.say(row), "ok")
            self.assertEqual(desk.say("show"), show_web(web))
