"""Webs and stands as texts. Each web has just one text."""

from followmost.errors import NoStand, NoText
from followmost.turns import check_stand
from followmost.webs import MOST_PEOPLE, bars_of, is_tie, many_of, stays_of, ties_once, web_of
from followmost.wholes import is_between

MOST_FIGURES = 60
FIGURES = "0123456789"
STAYS = {"free": None, "stays 0": 0, "stays 1": 1}


def show_web(web):
    many = many_of(web)
    lines = [f"people {many}"]
    lines.extend([f"tie {one} {other} {weight}" for one, other, weight in ties_once(web)])
    lines.extend([f"bar {bar}" for bar in bars_of(web)])
    lines.extend(["free" if stay is None else f"stays {stay}" for stay in stays_of(web)])
    return "\n".join(lines)


# Lines with which a web's text may begin can always be gone on with to the end of one. So
# the line to be told is the first that can't stand behind those ahead of it, or that lacks.
def read_web(text):
    if not isinstance(text, str):
        raise NoText(0)
    lines = text.split("\n")
    many = read_many(lines)
    ties = read_ties(lines, many)
    bars = read_bars(lines, 1 + len(ties), many)
    stays = read_stays(lines, 1 + len(ties) + many, many)
    end = 1 + len(ties) + 2 * many
    if len(lines) > end:
        raise NoText(end)
    return web_of(many, ties, bars, stays)


def show_stand(stand):
    return "".join([str(opinion) for opinion in stand])


def read_stand(web, text):
    if not isinstance(text, str) or not all([sign in ("0", "1") for sign in text]):
        raise NoStand("this is no text of a stand")
    stand = tuple([int(sign) for sign in text])
    check_stand(web, stand)
    return stand


def is_number(text):
    figures = text[1:] if text.startswith("-") else text
    if not is_between(len(figures), 1, MOST_FIGURES):
        return False
    if not all([sign in FIGURES for sign in figures]):
        return False
    return figures[0] != "0" or text == "0"


def read_many(lines):
    numbers = numbers_behind("people", lines[0])
    if len(numbers) != 1 or not is_between(numbers[0], 1, MOST_PEOPLE):
        raise NoText(0)
    return numbers[0]


# What is no tie ends them: whether it may stand there the bars tell.
def read_ties(lines, many):
    ties = []
    for place in range(1, len(lines)):
        if not lines[place].startswith("tie "):
            break
        tie = tuple(numbers_behind("tie", lines[place]))
        if not is_tie(many, tie) or not is_next_tie(ties, tie):
            raise NoText(place)
        ties.append(tie)
    return ties


def is_next_tie(ties, tie):
    return tie[0] < tie[1] and (ties == [] or ties[-1][:2] < tie[:2])


def read_bars(lines, start, many):
    bars = []
    for place in range(start, start + many):
        numbers = numbers_behind("bar", line_at(lines, place))
        if len(numbers) != 1:
            raise NoText(place)
        bars.extend(numbers)
    return bars


def read_stays(lines, start, many):
    stays = []
    for place in range(start, start + many):
        line = line_at(lines, place)
        if line not in STAYS:
            raise NoText(place)
        stays.append(STAYS[line])
    return stays


def line_at(lines, place):
    if place == len(lines):
        raise NoText(place)
    return lines[place]


# No numbers are told of a line that isn't so: whoever asks wants at least one.
def numbers_behind(word, line):
    words = line.split(" ")
    if words[0] != word or not all([is_number(figures) for figures in words[1:]]):
        return []
    return [int(figures) for figures in words[1:]]
