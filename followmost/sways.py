"""Who turns all: some people begin with 1, and it is told how the history from there ends."""

from followmost.errors import NoPeople
from followmost.histories import ended
from followmost.webs import is_person, stay_of, stays_of


def begun(web, some):
    if not are_choosable(web, some):
        raise NoPeople("this is no rising list of people who don't stay with 0")
    return tuple([1 if person in some or stay == 1 else 0 for person, stay in enumerate(stays_of(web))])


# Where the history ends at rest with all holding 1, the first stand at which all do is
# the last but one that is told, as the last is its turn. A start at which all hold 1
# and that is left again is no such end.
def turns_all(web, some):
    end = ended(web, begun(web, some))
    word = end[1]
    stands = end[2]
    if word == "pair":
        return ("not", stands[-2:])
    if 0 in stands[-1]:
        return ("not", stands[-1:])
    return ("turn", stands[:-1])


# The things are known to be people, of the right kind, ahead of being compared.
def are_choosable(web, thing):
    if not isinstance(thing, list):
        return False
    if not all([may_be_chosen(web, person) for person in thing]):
        return False
    return all([thing[place] < thing[place + 1] for place in range(len(thing) - 1)])


def may_be_chosen(web, thing):
    return is_person(web, thing) and stay_of(web, thing) != 0
