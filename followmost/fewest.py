"""The fewest people who turn all, and trees that show why no fewer do."""

from followmost.errors import TooMuch
from followmost.sways import are_choosable, may_be_chosen, turns_all
from followmost.webs import free_of, many_of

MOST_FREE_TRIED = 9


# Who stays with 1 holds it, chosen or not, and where one stays with 0 nobody turns all:
# so only those who don't stay are tried.
def fewest(web):
    free = free_of(web)
    if len(free) > MOST_FREE_TRIED:
        raise TooMuch("more than nine people don't stay")
    known = {}
    for some in lists_of(free):
        if do_turn(web, some, known):
            tree = None if some == [] else tree_above(web, len(some) - 1, [], known)
            return (some, tree)
    return None


def tree_holds(web, m, tree):
    return holds_above(web, m, tree, [], {})


# The shorter lists first, each rising as the people do.
def lists_of(people):
    lists = [[]]
    for person in people:
        lists = lists + [some + [person] for some in lists]
    return sorted(lists, key=len)


# The same people are come to in many orders in a tree, so what is found of them is put down.
def do_turn(web, some, known):
    people = tuple(some)
    if people not in known:
        known[people] = turns_all(web, some)[0] == "turn"
    return known[people]


# Only where no list of m people more than those chosen turns all: so those chosen don't
# turn all here, nor at any leaf of the tree.
def tree_above(web, m, chosen, known):
    if m == 0:
        return ("leaf",)
    some = left_out(web, chosen, known)
    trees = [tree_above(web, m - 1, chosen + [person], known) for person in some]
    return ("part", some, trees)


# Those chosen are made more for as long as they don't turn all. Whoever is left out
# would turn all with them, and so would with the still more that come behind.
def left_out(web, chosen, known):
    grown = chosen
    left = []
    for person in free_of(web):
        if person in grown:
            continue
        more = sorted(grown + [person])
        if do_turn(web, more, known):
            left.append(person)
        else:
            grown = more
    return left


# Each step down has one more person chosen, and none twice, so no tree is gone down
# further than there are people, however deep it is.
def holds_above(web, m, tree, chosen, known):
    if m == 0:
        return tree == ("leaf",) and not do_turn(web, chosen, known)
    if tree[0] != "part" or not parts_rightly(web, tree[1], tree[2], chosen, known):
        return False
    for person, inner in zip(tree[1], tree[2]):
        if not holds_above(web, m - 1, inner, sorted(chosen + [person]), known):
            return False
    return True


def parts_rightly(web, some, trees, chosen, known):
    if not are_choosable(web, some) or len(trees) != len(some):
        return False
    if any([person in chosen for person in some]):
        return False
    rest = [person for person in range(many_of(web)) if may_be_chosen(web, person) and person not in some]
    return not do_turn(web, rest, known)
