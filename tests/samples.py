"""Webs and odd things that several tests share, and a slow reckoning beside the program's."""

from itertools import product

from followmost.webs import web_of


class Prickly:
    """A thing that can't be compared, counted, walked or asked for its truth."""

    __hash__ = None

    def refuse(self, *others):
        raise RuntimeError("a thing of another kind was asked for more than its kind")

    __eq__ = __ne__ = __lt__ = __le__ = __gt__ = __ge__ = refuse
    __len__ = __iter__ = __getitem__ = __bool__ = __int__ = __index__ = __repr__ = refuse
    __add__ = __radd__ = __contains__ = refuse


# None of these is a whole number, and none a list or a tuple with things in it.
NO_NUMBERS = [True, False, "", "0", "1", 0.0, 1.0, float("nan"), float("inf"), 1j, b"1",
              [], (), {}, set(), [0], (0,), [1], (1,), {0: 1}, object(), int, Prickly()]

GREATEST = 10 ** 60 - 1


def family(number):
    """One of many small webs, as it is handed to web_of; the same for the same number."""
    state = [number * 2654435761 + 12345]

    def draw(many):
        state[0] = (state[0] * 6364136223846793005 + 1442695040888963407) % 2 ** 64
        return (state[0] >> 33) % many

    many = 1 + draw(5)
    ties = []
    for one in range(many):
        for other in range(one):
            if draw(3):
                pair = (one, other) if draw(2) else (other, one)
                ties.append(pair + (1 + draw(4 if number % 3 else 400),))
    bars = None
    if draw(3):
        bars = [draw(2 * strength(ties, person) + 3) - 1 for person in range(many)]
    stays = [(None, None, None, 0, 1)[draw(5)] for person in range(many)] if draw(2) else None
    return many, ties, bars, stays


def strength(ties, person):
    return sum(weight for one, other, weight in ties if person in (one, other))


def bars_of(told):
    many, ties, bars, stays = told
    return [strength(ties, person) for person in range(many)] if bars is None else bars


def stands_of(told):
    """All stands that fit, by all figures there are."""
    many, ties, bars, stays = told
    stays = [None] * many if stays is None else stays
    return [stand for stand in product((0, 1), repeat=many)
            if all(stay in (None, opinion) for stay, opinion in zip(stays, stand))]


def slow_pull(told, stand, person):
    return sum(2 * weight * stand[one + other - person] for one, other, weight in told[1]
               if person in (one, other))


def slow_turn(told, stand):
    many, ties, bars, stays = told
    bars = bars_of(told)
    behind = []
    for person in range(many):
        over = slow_pull(told, stand, person) - bars[person]
        opinion = 1 if over > 0 else 0 if over < 0 else stand[person]
        behind.append(opinion if stays is None or stays[person] is None else stays[person])
    return tuple(behind)


def slow_sum(told, first, second):
    bars = bars_of(told)
    total = sum((2 * bar + 1) * (a + b) for bar, a, b in zip(bars, first, second))
    for one, other, weight in told[1]:
        total -= 4 * weight * (first[one] * second[other] + first[other] * second[one])
    return total - 2 * sum(a * b for a, b in zip(first, second))


def families(most):
    return [(told, web_of(*told)) for told in map(family, range(most))]
