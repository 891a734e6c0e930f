"""The doubled web, whose rests are the rests and the pairs of the web itself."""

from followmost.errors import TooMuch
from followmost.webs import bars_of, many_of, stays_of, ties_of, web_of

MOST_PEOPLE_DOUBLED = 15
MOST_WEIGHT_DOUBLED = 200


# The tie of 1 between both halves of a person, with the 1 at their bars, makes a half
# take what the other half holds where the person's pull and bar are the same.
def doubled(web):
    check_size(web)
    bars = [2 * bar + 1 for bar in bars_of(web)]
    stays = stays_of(web)
    return web_of(2 * many_of(web), doubled_ties(web), bars + bars, stays + stays)


def halves(stand):
    many = len(stand) // 2
    return (stand[:many], stand[many:])


def whole(one, other):
    return one + other


def check_size(web):
    if many_of(web) > MOST_PEOPLE_DOUBLED:
        raise TooMuch("a web of more than 15 people is not doubled")
    for person in range(many_of(web)):
        if any([weight > MOST_WEIGHT_DOUBLED for other, weight in ties_of(web, person)]):
            raise TooMuch("a web with a weight of more than 200 is not doubled")


# A tie of the web is met from both its people, and gives one tie each time.
def doubled_ties(web):
    many = many_of(web)
    ties = [(person, many + person, 1) for person in range(many)]
    for person in range(many):
        ties.extend([(person, many + other, 2 * weight) for other, weight in ties_of(web, person)])
    return ties
