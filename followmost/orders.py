"""Turns one behind the other, by an order, and the weight that each change lessens."""

from followmost.errors import NoOrder
from followmost.turns import check_stand, next_at, turn_at
from followmost.webs import bar_of, free_of, ties_of


def gone(web, stand, order):
    check_stand(web, stand)
    return changes_at(web, stand, order)


# A tie between two that hold 1 is met from both its ends, and so is taken off twice.
def weight(web, stand):
    check_stand(web, stand)
    total = 0
    for person, opinion in enumerate(stand):
        if opinion == 1:
            total += bar_of(web, person)
            total -= sum([heft for other, heft in ties_of(web, person) if stand[other] == 1])
    return total


def is_rest(web, stand):
    check_stand(web, stand)
    return turn_at(web, stand) == stand


# This ends, as the weight is a whole number that falls at each change. It ends at
# rest, as everyone who may change was asked in the round behind which nobody did.
def settled(web, stand, order):
    check_stand(web, stand)
    check_order(web, order)
    rounds = 0
    held = stand
    changes = changes_at(web, held, order)
    while changes != []:
        rounds += 1
        held = changed(held, changes)
        changes = changes_at(web, held, order)
    return (rounds, held)


def check_order(web, order):
    for person in free_of(web):
        if person not in order:
            raise NoOrder("the order lacks a person who doesn't stay")


# From here on the stand is known to fit.
def changes_at(web, stand, order):
    held = list(stand)
    changes = []
    for place, person in enumerate(order):
        opinion = next_at(web, held, person)
        if opinion != held[person]:
            held[person] = opinion
            changes.append((place, person, opinion))
    return changes


def changed(stand, changes):
    held = list(stand)
    for place, person, opinion in changes:
        held[person] = opinion
    return tuple(held)
