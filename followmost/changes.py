"""Changed webs, where two histories differ, opinions exchanged, and people named anew."""

from followmost.errors import NoWeb
from followmost.turns import check_stand, turn_at
from followmost.webs import bars_of, is_person, many_of, stays_of, ties_once, web_of, weights_of
from followmost.wholes import is_between


# A weight of 0 takes the tie away; any other is looked at where the web is made.
def with_tie(web, one, other, weight):
    check_person(web, one)
    check_person(web, other)
    if one == other:
        raise NoWeb("nobody is tied to itself")
    pair = (min(one, other), max(one, other))
    ties = [tie for tie in ties_once(web) if tie[:2] != pair]
    if not is_between(weight, 0, 0):
        ties.append((one, other, weight))
    return web_of(many_of(web), ties, bars_of(web), stays_of(web))


def with_bar(web, person, bar):
    check_person(web, person)
    bars = bars_of(web)
    bars[person] = bar
    return web_of(many_of(web), ties_once(web), bars, stays_of(web))


def with_stay(web, person, stay):
    check_person(web, person)
    stays = stays_of(web)
    stays[person] = stay
    return web_of(many_of(web), ties_once(web), bars_of(web), stays)


def check_person(web, thing):
    if not is_person(web, thing):
        raise NoWeb("this is no person of the web")


def differ(web, stand, other, beyond, turns):
    check_stand(web, stand)
    check_stand(other, beyond)
    found = []
    here = stand
    there = beyond
    for place in range(turns + 1):
        found.extend([(place, person) for person in range(many_of(web)) if here[person] != there[person]])
        here = turn_at(web, here)
        there = turn_at(other, there)
    return found


# The pull of one who holds 0 where it held 1, and all others likewise, is twice the sum
# of its weights less what it was: so must the bar be.
def exchanged(web):
    bars = [2 * weights_of(web, person) - bar for person, bar in enumerate(bars_of(web))]
    stays = [None if stay is None else 1 - stay for stay in stays_of(web)]
    return web_of(many_of(web), ties_once(web), bars, stays)


def exchanged_stand(stand):
    return tuple([1 - opinion for opinion in stand])


def named(web, order):
    ties = [(order[one], order[other], weight) for one, other, weight in ties_once(web)]
    return web_of(many_of(web), ties, moved(bars_of(web), order), moved(stays_of(web), order))


def named_stand(stand, order):
    return tuple(moved(stand, order))


def moved(things, order):
    behind = list(things)
    for thing, person in zip(things, order):
        behind[person] = thing
    return behind
