import unittest
from copy import deepcopy
from itertools import combinations

from followmost.errors import TooMuch
from followmost.fewest import fewest, tree_holds
from followmost.webs import web_of
from tests.samples import (GREATEST, all_lists, choosable, drawing, families, refused, slow_turns_all, strength)

LEAF = ("leaf",)
TWO = web_of(2, [(0, 1, 1)], None, None)
# Each needs two others with 1, or, holding 1, one: any two turn all, nobody alone does.
THREE = web_of(3, [(0, 1, 1), (1, 2, 1), (0, 2, 1)], [2, 2, 2], None)
# Persons 0 and 1 are a pair of their own, so are 2 and 3: of each both must be chosen.
PAIRS = web_of(4, [(0, 1, 1), (2, 3, 1)], None, None)
# Person 0 stays with 1, person 3 with 0.
STAYING = web_of(4, [(0, 1, 1), (1, 2, 1), (2, 3, 1)], [1, 1, 1, 1], [1, None, None, 0])


def alone(many, bar, stays=None):
    """People without ties, all with one bar: with bar 0 each holds what it held."""
    return web_of(many, [], [bar] * many, stays)


def part(some, trees=None):
    return ("part", some, [LEAF for person in some] if trees is None else trees)


def turning(told, web):
    """Of each list of people who may be chosen, whether they turn all, reckoned slowly."""
    return {tuple(some): slow_turns_all(told, some) for some in all_lists(web)}


def slow_holds(known, people, m, tree, chosen=()):
    if tree[0] == "leaf":
        return m == 0 and not known[tuple(sorted(chosen))]
    some, trees = tree[1:]
    if m == 0 or len(some) != len(trees) or sorted(set(some)) != some:
        return False
    if not set(some) <= set(people) or set(some) & set(chosen):
        return False
    if known[tuple(person for person in people if person not in some)]:
        return False
    return all(slow_holds(known, people, m - 1, inner, chosen + (person,)) for person, inner in zip(some, trees))


def parts_of(tree):
    if tree is None or tree[0] == "leaf":
        return []
    return [tree] + [below for inner in tree[2] for below in parts_of(inner)]


def catching(number, most):
    """A web, as it is handed to web_of, in which all together turn all but for who stays with 0."""
    draw = drawing(number + 1000)
    many = 1 + draw(most)
    ties = [(one, other, 1 + draw(3)) for one in range(many) for other in range(one) if draw(2 + number % 3)]
    bars = [max(-1, 2 * strength(ties, person) - draw(4)) for person in range(many)]
    stays = [(None, None, None, None, None, None, 1, 1)[draw(8)] for person in range(many)]
    if draw(8) == 0:
        stays[draw(many)] = 0
    return many, ties, bars, stays


def catchings(most_webs, most_people):
    return [(told, web_of(*told)) for told in [catching(number, most_people) for number in range(most_webs)]]


def altered(tree, draw, many):
    """The tree with something in it put otherwise, mostly so that it doesn't hold."""
    if tree[0] == "leaf":
        return part([], []) if draw(2) else part([draw(many)])
    some, trees = list(tree[1]), list(tree[2])
    way = draw(8)
    if way == 0:
        return LEAF
    if way == 1 and some:
        some.pop(draw(len(some)))
    elif way == 2:
        some.append(draw(many + 2) - 1)
    elif way == 3:
        some = some[::-1]
    elif way == 4:
        trees.append(LEAF)
    elif way == 5 and some:
        place = draw(len(some))
        some.pop(place)
        trees.pop(place)
    elif way == 6:
        some.append(draw(many))
        trees.append(trees[0] if trees else LEAF)
    elif trees:
        place = draw(len(trees))
        trees[place] = altered(trees[place], draw, many)
    return ("part", some, trees)


class TreeHolds(unittest.TestCase):

    def test_a_leaf(self):
        self.assertIs(tree_holds(TWO, 0, LEAF), True)
        self.assertIs(tree_holds(STAYING, 0, LEAF), True)
        self.assertIs(tree_holds(TWO, 1, LEAF), False)
        self.assertIs(tree_holds(TWO, 2, LEAF), False)
        self.assertIs(tree_holds(TWO, GREATEST, LEAF), False)

    def test_a_leaf_where_nobody_needs_to_be_chosen(self):
        for web in [alone(1, -1), alone(3, -1), alone(2, 0, [1, 1]), web_of(2, [(0, 1, 1)], [1, 1], [1, None])]:
            self.assertIs(tree_holds(web, 0, LEAF), False)
            self.assertIs(tree_holds(web, 1, LEAF), False)

    def test_a_part(self):
        self.assertIs(tree_holds(TWO, 1, part([0])), True)
        self.assertIs(tree_holds(TWO, 1, part([1])), True)
        self.assertIs(tree_holds(TWO, 1, part([0, 1])), True)
        self.assertIs(tree_holds(THREE, 1, part([1, 2])), True)
        self.assertIs(tree_holds(THREE, 1, part([0, 1, 2])), True)

    def test_a_part_for_nought(self):
        for tree in [part([0]), part([1]), part([0, 1]), part([]), part([0], [part([1])])]:
            self.assertIs(tree_holds(TWO, 0, tree), False)
        self.assertIs(tree_holds(STAYING, 0, part([])), False)

    def test_a_part_for_more_than_it_is(self):
        self.assertIs(tree_holds(TWO, 2, part([0])), False)
        self.assertIs(tree_holds(TWO, GREATEST, part([0])), False)
        self.assertIs(tree_holds(PAIRS, 3, part([0], [part([1])])), False)
        self.assertIs(tree_holds(PAIRS, 1, part([0], [part([1])])), False)

    def test_too_few_of_some(self):
        for some in [[0], [1], [2], []]:
            self.assertIs(tree_holds(THREE, 1, part(some)), False)
        self.assertIs(tree_holds(TWO, 1, part([])), False)

    def test_a_part_over_no_people(self):
        for m in [1, 2, 40, GREATEST]:
            self.assertIs(tree_holds(STAYING, m, part([])), True)
            self.assertIs(tree_holds(alone(2, 1), m, part([])), True)
            self.assertIs(tree_holds(alone(2, 0), m, part([])), False)
            self.assertIs(tree_holds(alone(2, -1), m, part([])), False)
        self.assertIs(tree_holds(STAYING, 0, part([])), False)
        self.assertIs(tree_holds(STAYING, 1, part([], [LEAF])), False)

    def test_trees_one_in_another(self):
        tree = part([0], [part([1], [part([2])])])
        self.assertIs(tree_holds(PAIRS, 3, tree), True)
        self.assertIs(tree_holds(PAIRS, 2, tree), False)
        self.assertIs(tree_holds(PAIRS, 4, tree), False)
        deeper = part([0], [part([1], [part([2], [part([3])])])])
        self.assertIs(tree_holds(PAIRS, 4, deeper), False)

    def test_whose_inner_part_fails_alone(self):
        whole = part([0, 1], [part([2]), part([3])])
        self.assertIs(tree_holds(PAIRS, 2, whole), True)
        for wrong in [part([]), part([0, 1]), part([2, 3], [LEAF]), part([2], [LEAF, LEAF]), LEAF,
                      part([2], [part([3])]), part([3, 2]), part([2, 2]), part([4])]:
            self.assertIs(tree_holds(PAIRS, 2, part([0, 1], [part([2]), wrong])), False)
            self.assertIs(tree_holds(PAIRS, 2, part([0, 1], [wrong, part([3])])), False)

    def test_whose_leaf_fails_alone(self):
        # Person 0 turns all by itself, 1 and 2 each do not.
        web = web_of(3, [(0, 1, 1), (0, 2, 1)], [2, 0, 0], None)
        self.assertIs(tree_holds(web, 0, LEAF), True)
        self.assertIs(tree_holds(web, 1, part([0, 1, 2])), False)
        self.assertIs(tree_holds(web, 1, part([0, 1])), False)
        self.assertIs(tree_holds(web, 1, part([0, 2])), False)

    def test_some_that_does_not_rise_or_has_one_twice(self):
        for some in [[1, 0], [2, 1, 0], [0, 2, 1], [0, 0], [0, 1, 1], [0, 0, 1], [1, 1, 1], [0, 1, 0]]:
            self.assertIs(tree_holds(THREE, 1, part(some)), False)
            self.assertIs(tree_holds(TWO, 1, part(some)), False)

    def test_numbers_that_are_no_people(self):
        for number in [-1, -3, 3, 4, 30, GREATEST, -GREATEST]:
            self.assertIs(tree_holds(THREE, 1, part(sorted([0, 1, number]))), False)
            self.assertIs(tree_holds(THREE, 1, part([number])), False)
        self.assertIs(tree_holds(THREE, 1, part(list(range(500)))), False)
        self.assertIs(tree_holds(STAYING, 1, part([4])), False)

    def test_one_who_stays(self):
        self.assertIs(tree_holds(STAYING, 1, part([3])), False)
        self.assertIs(tree_holds(STAYING, 1, part([1, 3])), False)
        self.assertIs(tree_holds(STAYING, 1, part([0])), True)
        self.assertIs(tree_holds(STAYING, 2, part([0], [part([1])])), True)
        web = alone(3, 0, [1, None, None])
        self.assertIs(tree_holds(web, 1, part([0])), False)
        self.assertIs(tree_holds(web, 1, part([0, 1])), True)
        self.assertIs(tree_holds(web, 2, part([0, 1], [part([2]), part([2])])), False)

    def test_one_already_chosen(self):
        self.assertIs(tree_holds(PAIRS, 2, part([0], [part([1])])), True)
        self.assertIs(tree_holds(PAIRS, 2, part([0], [part([0])])), False)
        self.assertIs(tree_holds(PAIRS, 2, part([0], [part([0, 1])])), False)
        self.assertIs(tree_holds(PAIRS, 3, part([1], [part([2], [part([1])])])), False)
        self.assertIs(tree_holds(PAIRS, 3, part([1], [part([2], [part([3])])])), True)

    def test_too_many_trees_and_too_few(self):
        for many in range(5):
            self.assertIs(tree_holds(THREE, 1, part([0, 1], [LEAF] * many)), many == 2)
            self.assertIs(tree_holds(STAYING, 1, part([], [LEAF] * many)), many == 0)

    def test_a_tree_far_deeper_than_there_are_people(self):
        tree = LEAF
        for place in range(450):
            tree = part([0], [tree])
        self.assertIs(tree_holds(TWO, 450, tree), False)
        self.assertIs(tree_holds(alone(30, 0), 450, tree), False)

    def test_thirty_people(self):
        web = alone(30, 0)
        tree = LEAF
        for person in reversed(range(29)):
            tree = part([person], [tree])
        self.assertIs(tree_holds(web, 29, tree), True)
        self.assertIs(tree_holds(web, 28, tree), False)
        self.assertIs(tree_holds(web, 30, tree), False)

    def test_bars_of_sixty_figures(self):
        web = web_of(3, [(0, 1, 1)], [GREATEST, 0, -GREATEST], None)
        self.assertIs(tree_holds(web, 1, part([])), True)
        web = web_of(3, [(0, 1, 1)], [-GREATEST, 0, -GREATEST], None)
        self.assertIs(tree_holds(web, 0, LEAF), False)
        web = web_of(3, [(0, 1, 1)], [-GREATEST, 0, 0], None)
        self.assertIs(tree_holds(web, 0, LEAF), True)
        self.assertIs(tree_holds(web, 1, part([2])), False)

    def test_many(self):
        words = []
        for place, (told, web) in enumerate(catchings(150, 5) + families(100)):
            draw = drawing(place)
            known, people = turning(told, web), choosable(web)
            answer = fewest(web)
            trees = [LEAF, part([]), part(people), part(people, [part(people)] * len(people))]
            trees += [part([person]) for person in people]
            if answer is not None and answer[1] is not None:
                trees.append(answer[1])
                trees += [altered(answer[1], draw, told[0]) for time in range(12)]
            for tree in trees:
                for m in range(5):
                    holds = tree_holds(web, m, tree)
                    self.assertIs(holds, slow_holds(known, people, m, tree))
                    words.append((m, tree[0], holds))
                    if holds:
                        fewer = [some for some in known if len(some) <= m]
                        self.assertFalse(any(known[some] for some in fewer))
        for kind in [(0, "leaf", True), (0, "leaf", False), (1, "part", True), (2, "part", True), (3, "part", True)]:
            self.assertIn(kind, words)


class Fewest(unittest.TestCase):

    def test_by_hand(self):
        some, tree = fewest(TWO)
        self.assertEqual(some, [0, 1])
        self.assertIn(tree, [part([0]), part([1])])
        some, tree = fewest(THREE)
        self.assertIn(some, [[0, 1], [0, 2], [1, 2]])
        self.assertIn(tree, [part([0, 1]), part([0, 2]), part([1, 2])])
        some, tree = fewest(PAIRS)
        self.assertEqual(some, [0, 1, 2, 3])
        self.assertIs(tree_holds(PAIRS, 3, tree), True)

    def test_one_who_turns_all(self):
        line = web_of(3, [(0, 1, 1), (1, 2, 1)], [0, 0, 0], None)
        some, tree = fewest(line)
        self.assertIn(some, [[0], [1], [2]])
        self.assertEqual(tree, LEAF)
        self.assertEqual(fewest(alone(1, 0)), ([0], LEAF))

    def test_nobody_turns_all(self):
        for web in [STAYING, alone(1, 1), alone(2, 0, [None, 0]), alone(1, 0, [0]), alone(9, 1), alone(9, GREATEST)]:
            self.assertIsNone(fewest(web))

    def test_nobody_needs_to_be_chosen(self):
        for web in [alone(1, -1), alone(9, -GREATEST), alone(2, 5, [1, 1]), alone(30, 0, [1] * 30),
                    web_of(3, [(0, 1, 1), (1, 2, 1)], [5, 1, 1], [1, None, None])]:
            self.assertEqual(fewest(web), ([], None))

    def test_who_stays_with_one_need_not_be_chosen(self):
        web = web_of(4, [(0, 1, 1), (1, 2, 1), (0, 2, 1)], [9, 3, 3, 0], [1, None, None, None])
        self.assertEqual(fewest(web)[0], [1, 2, 3])
        self.assertEqual(fewest(alone(4, 0, [1, None, 1, None]))[0], [1, 3])

    def test_nine_people_and_ten(self):
        self.assertEqual(fewest(alone(9, 0))[0], list(range(9)))
        self.assertIs(tree_holds(alone(9, 0), 8, fewest(alone(9, 0))[1]), True)
        for web in [alone(10, 0), alone(10, -1), alone(10, 1), alone(11, 0), alone(30, 0)]:
            refused(self, TooMuch, fewest, web)

    def test_only_those_who_do_not_stay_count(self):
        some, tree = fewest(alone(30, 0, [None] * 9 + [1] * 21))
        self.assertEqual(some, list(range(9)))
        self.assertEqual(fewest(alone(30, 0, [1] * 21 + [None] * 9))[0], list(range(21, 30)))
        self.assertIsNone(fewest(alone(30, 0, [None] * 9 + [0] * 21)))

    def test_too_much_comes_ahead_of_all(self):
        refused(self, TooMuch, fewest, alone(11, 0, [0] + [None] * 10))
        refused(self, TooMuch, fewest, alone(12, -1, [1, 1] + [None] * 10))
        refused(self, TooMuch, fewest, alone(10, 5))

    def test_nine_people_tied(self):
        ties = [(one, other, 1) for one in range(9) for other in range(one)]
        for needed in range(1, 9):
            web = web_of(9, ties, [2 * needed - 1] * 9, None)
            some, tree = fewest(web)
            self.assertIs(tree_holds(web, len(some) - 1, tree), True)
            # All chosen must hold out, each with as many others as it needs.
            self.assertEqual(len(some), needed if needed < 5 else needed + 1)

    def test_kinds(self):
        some, tree = fewest(PAIRS)
        self.assertEqual([type(some), type(tree)], [list, tuple])
        for inner in parts_of(tree):
            self.assertEqual([type(thing) for thing in inner], [str, list, list])
            self.assertEqual({type(person) for person in inner[1]}, {int})
            self.assertEqual({type(below) for below in inner[2]}, {tuple})
        self.assertEqual(type(fewest(PAIRS)), tuple)

    def test_bars_of_sixty_figures(self):
        web = web_of(3, [(0, 1, 1), (1, 2, 1)], [-GREATEST, 3, 0], None)
        self.assertIn(fewest(web), [([1], LEAF), ([2], LEAF)])
        self.assertIsNone(fewest(web_of(2, [(0, 1, 400)], [-GREATEST, GREATEST], None)))

    def check(self, told, web):
        known, people = turning(told, web), choosable(web)
        answer = fewest(web)
        if not any(known.values()):
            self.assertIsNone(answer)
            return None
        some, tree = answer
        self.assertTrue(known[tuple(some)])
        self.assertFalse(any(known[other] for other in known if len(other) < len(some)))
        if not some:
            self.assertIsNone(tree)
            return 0
        m = len(some) - 1
        self.assertTrue(slow_holds(known, people, m, tree))
        self.assertIs(tree_holds(web, m, tree), True)
        for inner in parts_of(tree):
            for back in inner[1]:
                self.assertTrue(known[tuple(person for person in people if person not in inner[1] or person == back)])
        return len(some)

    def test_many(self):
        sizes = [self.check(told, web) for told, web in families(150) + catchings(300, 6)]
        for size in [None, 0, 1, 2, 3, 4, 5]:
            self.assertIn(size, sizes)

    def test_some_of_nine_people(self):
        ring = [(person, (person + 1) % 9, 1) for person in range(9)]
        for bars in [[3] * 9, [2] * 9, [2, 3, 1] * 3, [4, 1, 1] * 3]:
            told = (9, ring, bars, [None] * 9)
            self.assertIsNotNone(self.check(told, web_of(*told)))


class Kept(unittest.TestCase):

    def test_a_tree_that_is_handed_in_is_left_as_it_was(self):
        for tree in [part([0], [part([1], [part([2])])]), part([2, 1, 1], [LEAF]), part([3], [part([0])])]:
            before = deepcopy(tree)
            first = tree_holds(PAIRS, 3, tree)
            self.assertEqual(tree, before)
            self.assertIs(tree_holds(PAIRS, 3, tree), first)

    def test_a_tree_changed_behind_the_call(self):
        tree = part([0], [part([1])])
        self.assertIs(tree_holds(PAIRS, 2, tree), True)
        tree[2][0][1].append(2)
        self.assertIs(tree_holds(PAIRS, 2, tree), False)
        tree[2][0][1].pop()
        self.assertIs(tree_holds(PAIRS, 2, tree), True)
        tree[1][0] = 1
        self.assertIs(tree_holds(PAIRS, 2, tree), False)
        self.assertIs(tree_holds(PAIRS, 2, part([0], [part([1])])), True)

    def test_what_was_told_is_the_askers_own(self):
        first = fewest(PAIRS)
        before = deepcopy(first)
        inner = first[1]
        while inner[0] == "part":
            below = inner[2][0]
            inner[1].clear()
            inner[2].clear()
            inner = below
        first[0].append(7)
        self.assertEqual(fewest(PAIRS), before)

    def test_no_list_stands_twice_in_a_tree(self):
        ties = [(one, other, 1) for one in range(6) for other in range(one)]
        some, tree = fewest(web_of(6, ties, [5] * 6, None))
        lists = [some] + [thing for inner in parts_of(tree) for thing in inner[1:]]
        self.assertGreater(len(lists), 5)
        self.assertEqual(len({id(thing) for thing in lists}), len(lists))


class TheWhole(unittest.TestCase):

    def test_a_paper_let_by_is_so_whoever_wrote_it(self):
        # All trees of two parts, one in another, over webs of three people.
        lists = [list(some) for many in range(4) for some in combinations(range(3), many)]
        for told, web in catchings(40, 3):
            known = turning(told, web)
            inner = [part(some) for some in lists] + [LEAF]
            trees = [part(some, [below] * len(some)) for some in lists for below in inner]
            for m in range(4):
                for tree in [LEAF, *trees]:
                    if tree_holds(web, m, tree):
                        self.assertFalse(any(known[some] for some in known if len(some) <= m))
