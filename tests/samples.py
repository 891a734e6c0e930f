"""Webs and odd things that several tests share, and a slow reckoning beside the program's."""

from itertools import combinations, product

from followmost import errors
from followmost.webs import web_of

REFUSALS = [errors.NoWeb, errors.NoStand, errors.TooLong, errors.NoOrder, errors.TooMuch, errors.NoRest,
            errors.NoPeople, errors.NoText, errors.NoRow]


class Prickly:
    """A thing that can't be compared, counted, walked or asked for its truth."""

    __hash__ = None

    def refuse(self, *others):
        raise RuntimeError("a thing of another kind was asked for more than its kind")

    __eq__ = __ne__ = __lt__ = __le__ = __gt__ = __ge__ = refuse
    __len__ = __iter__ = __getitem__ = __bool__ = __int__ = __index__ = __repr__ = refuse
    __add__ = __radd__ = __contains__ = refuse


# None of these is a whole number, and none a list or a tuple with things in it.
NO_NUMBERS = [True, False, "", "0", "1", 0.0, 1.0, float("nan"), float("inf"), 1j, b"1",
              [], (), {}, set(), [0], (0,), [1], (1,), {0: 1}, object(), int, Prickly()]

GREATEST = 10 ** 60 - 1


# 0 - 1 by 2, 1 - 2 by 3, 0 - 2 by 1; person 3 alone; person 2 stays with 1.
FOUR_TIES = [(0, 1, 2), (1, 2, 3), (0, 2, 1)]
FOUR = web_of(4, FOUR_TIES, [4, 4, 4, 0], [None, None, 1, None])


def no_stands():
    """Things of many kinds, none of which is a stand that fits FOUR."""
    things = [None, 0, 1, "0010", [0, 0, 1, 0], {0: 0, 1: 0, 2: 1, 3: 0}, (), (0, 0, 1), (0, 0, 1, 0, 0),
              (0, 0, 1, 2), (0, 0, 1, -1), (0, 0, 1, GREATEST), (0, 0, 1, -GREATEST), (0, 0, 0, 0),
              (0, 0, 1, None), (0, 0, True, 0), (False, 0, 1, 0), (0, 0, 1.0, 0), ((0, 0, 1, 0),)]
    for thing in NO_NUMBERS:
        things.extend([thing, (thing, 0, 1, 0), (0, 0, thing, 0), (0, 0, 1, thing)])
    return things


def refused(test, kind, ask, *handed):
    """That asking is refused, by this kind of refusal and by none of the others."""
    with test.assertRaises(errors.MostError) as taken:
        ask(*handed)
    test.assertIsInstance(taken.exception, ValueError)
    test.assertEqual([other for other in REFUSALS if isinstance(taken.exception, other)], [kind])


def drawing(number):
    """A function that draws numbers below a bound, the same ones for the same number."""
    state = [number * 2654435761 + 12345]

    def draw(many):
        state[0] = (state[0] * 6364136223846793005 + 1442695040888963407) % 2 ** 64
        return (state[0] >> 33) % many

    return draw


def family(number):
    """One of many small webs, as it is handed to web_of; the same for the same number."""
    draw = drawing(number)
    many = 1 + draw(5)
    ties = []
    for one in range(many):
        for other in range(one):
            if draw(3):
                pair = (one, other) if draw(2) else (other, one)
                ties.append(pair + (1 + draw(4 if number % 3 else 400),))
    bars = None
    if draw(3):
        bars = [draw(2 * strength(ties, person) + 3) - 1 for person in range(many)]
    stays = [(None, None, None, 0, 1)[draw(5)] for person in range(many)] if draw(2) else None
    return many, ties, bars, stays


def strength(ties, person):
    return sum(weight for one, other, weight in ties if person in (one, other))


def bars_of(told):
    many, ties, bars, stays = told
    return [strength(ties, person) for person in range(many)] if bars is None else bars


def stands_of(told):
    """All stands that fit, by all figures there are."""
    many, ties, bars, stays = told
    stays = [None] * many if stays is None else stays
    return [stand for stand in product((0, 1), repeat=many)
            if all(stay in (None, opinion) for stay, opinion in zip(stays, stand))]


def slow_pull(told, stand, person):
    return sum(2 * weight * stand[one + other - person] for one, other, weight in told[1]
               if person in (one, other))


def slow_turn(told, stand):
    many, ties, bars, stays = told
    bars = bars_of(told)
    behind = []
    for person in range(many):
        over = slow_pull(told, stand, person) - bars[person]
        opinion = 1 if over > 0 else 0 if over < 0 else stand[person]
        behind.append(opinion if stays is None or stays[person] is None else stays[person])
    return tuple(behind)


def slow_sum(told, first, second):
    bars = bars_of(told)
    total = sum((2 * bar + 1) * (a + b) for bar, a, b in zip(bars, first, second))
    for one, other, weight in told[1]:
        total -= 4 * weight * (first[one] * second[other] + first[other] * second[one])
    return total - 2 * sum(a * b for a, b in zip(first, second))


def slow_weight(told, stand):
    total = sum(bar for bar, opinion in zip(bars_of(told), stand) if opinion)
    return total - 2 * sum(weight for one, other, weight in told[1] if stand[one] and stand[other])


def slow_gone(told, stand, order):
    """The changes, and the stand behind them."""
    changes = []
    for place, person in enumerate(order):
        opinion = slow_turn(told, stand)[person]
        if opinion != stand[person]:
            stand = stand[:person] + (opinion,) + stand[person + 1:]
            changes.append((place, person, opinion))
    return changes, stand


def slow_rests(told):
    return [stand for stand in stands_of(told) if slow_turn(told, stand) == stand]


def slow_pairs(told):
    return [(one, other) for one in stands_of(told) for other in stands_of(told)
            if one < other and slow_turn(told, one) == other and slow_turn(told, other) == one]


def choosable(web):
    return [person for person, stay in enumerate(web[2]) if stay != 0]


def all_lists(web):
    """All rising lists of people who may be chosen, the shorter ones first."""
    people = choosable(web)
    return [list(some) for many in range(len(people) + 1) for some in combinations(people, many)]


def slow_turns_all(told, some):
    many, ties, bars, stays = told
    stays = [None] * many if stays is None else stays
    stand = tuple(int(person in some or stays[person] == 1) for person in range(many))
    while slow_turn(told, slow_turn(told, stand)) != stand:
        stand = slow_turn(told, stand)
    return stand == slow_turn(told, stand) == (1,) * many


def heavier(told):
    """The web with each of its ties made heavier, the bars being as they were."""
    many, ties, bars, stays = told
    for place, (one, other, weight) in enumerate(ties):
        yield many, ties[:place] + [(one, other, min(400, weight + 2))] + ties[place + 1:], bars_of(told), stays


def lower(told):
    """The web with each of its bars made lower."""
    many, ties, bars, stays = told
    for person in range(many):
        yield many, ties, [bar - 2 * (place == person) for place, bar in enumerate(bars_of(told))], stays


def staying(told):
    """The web with each who doesn't stay staying with 1, and the person."""
    many, ties, bars, stays = told
    stays = [None] * many if stays is None else stays
    for person in range(many):
        if stays[person] is None:
            yield (many, ties, bars_of(told), stays[:person] + [1] + stays[person + 1:]), person


def families(most):
    return [(told, web_of(*told)) for told in map(family, range(most))]
