"""Stands and turns: what each person holds, and what it holds next."""

from followmost.errors import NoStand
from followmost.webs import bar_of, many_of, stay_of, ties_of
from followmost.wholes import is_opinion


def fits(web, thing):
    if not isinstance(thing, tuple) or len(thing) != many_of(web):
        return False
    for person, opinion in enumerate(thing):
        if not is_opinion(opinion):
            return False
        stay = stay_of(web, person)
        if stay is not None and opinion != stay:
            return False
    return True


def pull(web, stand, person):
    check_stand(web, stand)
    return pull_at(web, stand, person)


def next_of(web, stand, person):
    check_stand(web, stand)
    return next_at(web, stand, person)


def turn(web, stand):
    check_stand(web, stand)
    return turn_at(web, stand)


def is_below(one, other):
    return all([opinion <= above for opinion, above in zip(one, other)])


def check_stand(web, thing):
    if not fits(web, thing):
        raise NoStand("this is no stand that fits the web")


# From here on a stand is known to fit: whoever goes on turn by turn looks once,
# at the start, as the turn of a stand that fits is one that fits.
def pull_at(web, stand, person):
    return 2 * sum([weight for other, weight in ties_of(web, person) if stand[other] == 1])


def next_at(web, stand, person):
    stay = stay_of(web, person)
    if stay is not None:
        return stay
    strength = pull_at(web, stand, person)
    bar = bar_of(web, person)
    if strength == bar:
        return stand[person]
    return 1 if strength > bar else 0


def turn_at(web, stand):
    return tuple([next_at(web, stand, person) for person in range(many_of(web))])
