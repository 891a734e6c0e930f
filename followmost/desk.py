"""A desk keeps a web, and answers rows of words about it."""

from followmost.changes import with_bar, with_stay, with_tie
from followmost.errors import NoPeople, NoRow
from followmost.fewest import fewest
from followmost.histories import ended
from followmost.orders import weight
from followmost.rests import greatest_rest, joined, least_rest, met, pairs, rests
from followmost.sways import turns_all
from followmost.texts import is_number, read_stand, read_web, show_stand, show_web
from followmost.turns import turn
from followmost.webs import is_person

# What the words behind the first are, for each row but sways, which has any number of people.
FORMS = {
    "show": (),
    "turn": ("stand",),
    "ended": ("stand",),
    "weight": ("stand",),
    "least": (),
    "greatest": (),
    "rests": (),
    "pairs": (),
    "joined": ("stand", "stand"),
    "met": ("stand", "stand"),
    "fewest": (),
    "tie": ("person", "person", "number"),
    "bar": ("person", "number"),
    "stay": ("person", "stay"),
}


class Desk:

    def __init__(self, text):
        self.web = read_web(text)

    def say(self, row):
        words = words_of(row)
        things = things_of(self.web, form_of(words), words[1:])
        if words[0] in ("tie", "bar", "stay"):
            self.web = changed_web(self.web, words[0], things)
            return "ok"
        return answer(self.web, words[0], things)


def words_of(row):
    if not isinstance(row, str):
        raise NoRow("a row is a text")
    return row.split(" ")


def form_of(words):
    if words[0] == "sways":
        return tuple(["person" for word in words[1:]])
    if words[0] not in FORMS:
        raise NoRow("no row begins with this word")
    if len(words) - 1 != len(FORMS[words[0]]):
        raise NoRow("this row has too few words or too many")
    return FORMS[words[0]]


# Gone through three times, as an ill-written number at the row's end comes ahead of a
# person that isn't there, and that ahead of a stand that is none.
def things_of(web, form, words):
    for kind, word in zip(form, words):
        if not is_written(kind, word):
            raise NoRow("this is no number as it is written")
    for kind, word in zip(form, words):
        if kind == "person" and not is_person(web, int(word)):
            raise NoPeople("this person isn't there")
    return [thing_of(web, kind, word) for kind, word in zip(form, words)]


def is_written(kind, word):
    if kind == "stand" or (kind == "stay" and word == "free"):
        return True
    return is_number(word)


def thing_of(web, kind, word):
    if kind == "stand":
        return read_stand(web, word)
    return None if word == "free" else int(word)


def changed_web(web, word, things):
    if word == "tie":
        return with_tie(web, things[0], things[1], things[2])
    if word == "bar":
        return with_bar(web, things[0], things[1])
    return with_stay(web, things[0], things[1])


def answer(web, word, things):
    if word == "sways":
        return "yes" if turns_all(web, things)[0] == "turn" else "no"
    if FORMS[word] == ():
        return answer_of_web(web, word)
    return answer_of_stands(web, word, things)


def answer_of_web(web, word):
    if word == "show":
        return show_web(web)
    if word == "least":
        return show_stand(least_rest(web))
    if word == "greatest":
        return show_stand(greatest_rest(web))
    if word == "rests":
        return str(len(rests(web)))
    if word == "pairs":
        return str(len(pairs(web)))
    return answer_of_fewest(fewest(web))


def answer_of_fewest(told):
    if told is None:
        return "none"
    if told[0] == []:
        return "nobody"
    return " ".join([str(person) for person in told[0]])


def answer_of_stands(web, word, stands):
    if word == "turn":
        return show_stand(turn(web, stands[0]))
    if word == "weight":
        return str(weight(web, stands[0]))
    if word == "joined":
        return show_stand(joined(web, stands[0], stands[1]))
    if word == "met":
        return show_stand(met(web, stands[0], stands[1]))
    return answer_of_end(ended(web, stands[0]))


# Of a rest both of the last two stands are the same one.
def answer_of_end(told):
    turns = told[0]
    word = told[1]
    one = show_stand(told[2][-2])
    other = show_stand(told[2][-1])
    if word == "rest":
        return f"rest {turns} {one}"
    return f"pair {turns} {one} {other}"
