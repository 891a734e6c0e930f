"""Webs: who is tied to whom, by what weight, with what bar, and who stays.

A web is a tuple (ties, bars, stays), each with one thing for each person.
"""

from followmost.errors import NoWeb
from followmost.wholes import is_between, is_opinion, is_whole

MOST_PEOPLE = 30
MOST_WEIGHT = 400


# The refusals' words never show what was handed in: it may be of any kind,
# and Python itself refuses to write out a number of very many figures.
def web_of(many, ties, bars, stays):
    if not is_between(many, 1, MOST_PEOPLE):
        raise NoWeb("a web has 1 to 30 people")
    near = neighbours(many, ties)
    rows = tuple([tuple(sorted(row.items())) for row in near])
    return (rows, bars_told(near, bars), stays_told(many, stays))


def weights_of(web, person):
    return sum([weight for other, weight in ties_of(web, person)])


def many_of(web):
    return len(web[0])


def ties_of(web, person):
    return web[0][person]


def bar_of(web, person):
    return web[1][person]


def stay_of(web, person):
    return web[2][person]


def bars_of(web):
    return list(web[1])


def stays_of(web):
    return list(web[2])


def free_of(web):
    return [person for person, stay in enumerate(stays_of(web)) if stay is None]


# Each tie once, the lesser person ahead; sorted, as the others of a person rise.
def ties_once(web):
    ties = []
    for one in range(many_of(web)):
        ties.extend([(one, other, weight) for other, weight in ties_of(web, one) if one < other])
    return ties


def is_person(web, thing):
    return is_between(thing, 0, many_of(web) - 1)


# One dict for each person, from the others to the weights. Each tie is put
# down for both its people, so that a tie told again is found either way round.
def neighbours(many, ties):
    if not isinstance(ties, list):
        raise NoWeb("the ties are a list")
    near = [{} for person in range(many)]
    for tie in ties:
        if not is_tie(many, tie):
            raise NoWeb("a tie is a tuple of two unlike people and a weight from 1 to 400")
        one = tie[0]
        other = tie[1]
        if other in near[one]:
            raise NoWeb("no two people are told twice")
        near[one][other] = tie[2]
        near[other][one] = tie[2]
    return near


def is_tie(many, thing):
    if not isinstance(thing, tuple) or len(thing) != 3:
        return False
    one = thing[0]
    other = thing[1]
    if not is_between(one, 0, many - 1) or not is_between(other, 0, many - 1):
        return False
    return one != other and is_between(thing[2], 1, MOST_WEIGHT)


# The pull is twice the weights of those who hold 1, so the sum of all weights,
# taken once, is the bar of one who follows the most.
def bars_told(near, bars):
    if bars is None:
        return tuple([sum(row.values()) for row in near])
    if not isinstance(bars, list) or len(bars) != len(near):
        raise NoWeb("the bars are a list with one for each person")
    if not all([is_whole(bar) for bar in bars]):
        raise NoWeb("a bar is a whole number")
    return tuple(bars)


def stays_told(many, stays):
    if stays is None:
        return tuple([None for person in range(many)])
    if not isinstance(stays, list) or len(stays) != many:
        raise NoWeb("the stays are a list with one for each person")
    if not all([stay is None or is_opinion(stay) for stay in stays]):
        raise NoWeb("a stay is None, 0 or 1")
    return tuple(stays)
