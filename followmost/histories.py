"""Histories in which all turn at once, how they end, and the sums that show why."""

from followmost.errors import TooLong
from followmost.turns import check_stand, pull_at, turn_at
from followmost.webs import bar_of, many_of

MOST_TURNS = 400


def history(web, stand, turns):
    check_stand(web, stand)
    if turns > MOST_TURNS:
        raise TooLong("a history has at most 400 turns")
    stands = [stand]
    for place in range(turns):
        stands.append(turn_at(web, stands[place]))
    return stands


# There is no bound on the turns here: the sums of neighbouring stands are whole
# numbers that fall until a stand comes again behind two turns.
def ended(web, stand):
    check_stand(web, stand)
    stands = [stand, turn_at(web, stand)]
    later = turn_at(web, stands[1])
    while later != stands[-2]:
        stands.append(later)
        later = turn_at(web, later)
    word = "rest" if stands[-1] == stands[-2] else "pair"
    return (len(stands) - 2, word, stands)


# All stands are looked at ahead of the first sum, as one alone has no sum and
# is refused all the same where it doesn't fit.
def sums(web, stands):
    for stand in stands:
        check_stand(web, stand)
    return [sum_at(web, stands[place], stands[place + 1]) for place in range(len(stands) - 1)]


def sum_at(web, first, second):
    total = 0
    for person in range(many_of(web)):
        total += (2 * bar_of(web, person) + 1) * (first[person] + second[person])
        if second[person] == 1:
            total -= 2 * pull_at(web, first, person) + 2 * first[person]
    return total
