"""Stands at rest: the least, the greatest, all of them, and those between two; and pairs."""

from followmost.errors import NoRest, TooMuch
from followmost.histories import ended
from followmost.orders import is_rest
from followmost.turns import check_stand, turn_at
from followmost.webs import free_of, stays_of

MOST_FREE = 12


def least_rest(web):
    return end_of(web, stand_of_all(web, 0))


def greatest_rest(web):
    return end_of(web, stand_of_all(web, 1))


def rests(web):
    return [stand for stand in stands_to_try(web) if turn_at(web, stand) == stand]


def pairs(web):
    found = []
    for one in stands_to_try(web):
        other = turn_at(web, one)
        if one < other and turn_at(web, other) == one:
            found.append((one, other))
    return found


# What holds 1 in either rest goes on holding it, so the history from there only adds
# ones, and none that a rest above both lacks: where it ends is the least such rest.
def joined(web, one, other):
    check_rests(web, one, other)
    return end_of(web, tuple([max(low, high) for low, high in zip(one, other)]))


# As for the joined one, with the opinions exchanged.
def met(web, one, other):
    check_rests(web, one, other)
    return end_of(web, tuple([min(low, high) for low, high in zip(one, other)]))


def check_rests(web, one, other):
    check_stand(web, one)
    check_stand(web, other)
    if not is_rest(web, one) or not is_rest(web, other):
        raise NoRest("this stand is not at rest")


def stand_of_all(web, opinion):
    return tuple([opinion if stay is None else stay for stay in stays_of(web)])


# Only for stands from which the history ends at rest.
def end_of(web, stand):
    return ended(web, stand)[2][-1]


# Whatever comes again in its own history, a rest or one of a pair, lies between the
# least rest and the greatest, so no other stands need be tried.
def stands_to_try(web):
    if len(free_of(web)) > MOST_FREE:
        raise TooMuch("more than twelve people don't stay")
    return stands_between(least_rest(web), greatest_rest(web))


# Made longer person by person, 0 ahead of 1, the stands come sorted.
def stands_between(low, high):
    stands = [()]
    for least, greatest in zip(low, high):
        longer = []
        for stand in stands:
            longer.extend([stand + (opinion,) for opinion in range(least, greatest + 1)])
        stands = longer
    return stands
