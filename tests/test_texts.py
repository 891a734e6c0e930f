import unittest

from followmost.errors import MostError, NoStand, NoText, NoWeb
from followmost.texts import read_stand, read_web, show_stand, show_web
from followmost.webs import web_of
from tests.samples import FOUR, GREATEST, NO_NUMBERS, REFUSALS, families, refused, stands_of

FOUR_TEXT = """people 4
tie 0 1 2
tie 0 2 1
tie 1 2 3
bar 4
bar 4
bar 4
bar 0
free
free
stays 1
free"""
TWO_TEXT = "people 2\ntie 0 1 10\nbar -10\nbar 7\nstays 0\nfree"
SIGNS = "0123456789 -+abeinrstyx\n~._"
NO_TEXTS = [None, 0, 1, b"people 1\nbar 0\nfree", ["people 1", "bar 0", "free"], ("people 1", "bar 0", "free"),
            {"people": 1}, *[thing for thing in NO_NUMBERS if not isinstance(thing, str)]]


def lenient(line, word):
    """The numbers behind the word, however they are written."""
    return [int(part) for part in line.split()[1:]] if line.split()[:1] == [word] else None


def begins_one(lines):
    """Whether a web's text begins with these lines: they are read leniently, the web that comes of them is
    filled up and written, and must begin so."""
    try:
        many, = lenient(lines[0], "people")
        ties = [tuple(lenient(line, "tie")) for line in lines if line.startswith("tie")]
        bars = [lenient(line, "bar")[0] for line in lines if line.startswith("bar")]
        stays = [{"free": None, "stays 0": 0, "stays 1": 1}[line] for line in lines[1 + len(ties) + len(bars):]]
        web = web_of(many, ties, bars + [0] * (many - len(bars)), stays + [None] * (many - len(stays)))
    except (KeyError, IndexError, TypeError, ValueError):
        return False
    if max(map(abs, bars), default=0) > GREATEST:
        return False
    return show_web(web).split("\n")[:len(lines)] == lines


def wrong_line(text):
    """The line that is told of a text that is no web's."""
    lines = text.split("\n")
    for place in range(len(lines)):
        if not begins_one(lines[:place + 1]):
            return place
    return len(lines)


class Texts(unittest.TestCase):

    def refused_at(self, line, text):
        with self.assertRaises(MostError) as taken:
            read_web(text)
        self.assertIsInstance(taken.exception, ValueError)
        self.assertEqual([kind for kind in REFUSALS if isinstance(taken.exception, kind)], [NoText])
        self.assertEqual((taken.exception.line, type(taken.exception.line)), (line, int), text)

    def read_or_refused(self, text):
        """That a text is a web's, written as the very text, or is refused with the line to be told."""
        try:
            web = read_web(text)
        except NoText:
            self.refused_at(wrong_line(text), text)
            return False
        self.assertEqual(show_web(web), text)
        return True


class ShowWeb(unittest.TestCase):

    def test_by_hand(self):
        self.assertEqual(show_web(FOUR), FOUR_TEXT)
        self.assertEqual(show_web(web_of(2, [(1, 0, 10)], [-10, 7], [0, None])), TWO_TEXT)

    def test_one_person(self):
        self.assertEqual(show_web(web_of(1, [], None, None)), "people 1\nbar 0\nfree")
        self.assertEqual(show_web(web_of(1, [], [-5], [1])), "people 1\nbar -5\nstays 1")

    def test_ties_sorted_as_numbers(self):
        web = web_of(12, [(11, 10, 1), (2, 11, 2), (10, 2, 3), (2, 3, 400)], [0] * 12, None)
        self.assertEqual(show_web(web).split("\n")[1:6],
                         ["tie 2 3 400", "tie 2 10 3", "tie 2 11 2", "tie 10 11 1", "bar 0"])

    def test_bars_of_sixty_figures(self):
        nines = "9" * 60
        self.assertEqual(show_web(web_of(2, [], [GREATEST, -GREATEST], None)),
                         f"people 2\nbar {nines}\nbar -{nines}\nfree\nfree")

    def test_thirty_people_all_tied(self):
        ties = [(one, other, 1 + one * other % 400) for one in range(30) for other in range(one + 1, 30)]
        lines = show_web(web_of(30, ties, [person - 15 for person in range(30)], [0, 1, None] * 10)).split("\n")
        self.assertEqual(lines, ["people 30"] + [f"tie {one} {other} {weight}" for one, other, weight in ties]
                         + [f"bar {person - 15}" for person in range(30)] + ["stays 0", "stays 1", "free"] * 10)


class ReadWeb(Texts):

    def test_by_hand(self):
        self.assertEqual(read_web(FOUR_TEXT), FOUR)
        self.assertEqual(read_web(TWO_TEXT), web_of(2, [(0, 1, 10)], [-10, 7], [0, None]))
        self.assertEqual(read_web("people 1\nbar 0\nstays 1"), web_of(1, [], [0], [1]))

    def test_many(self):
        texts = {}
        for told, web in families(300):
            text = show_web(web)
            self.assertEqual(read_web(text), web)
            self.assertEqual(texts.setdefault(text, web), web)
        self.assertGreater(len(texts), 150)

    def test_sixty_figures_and_sixty_one(self):
        for sign in ["", "-"]:
            figures = sign + "1234567890" * 6
            self.assertEqual(read_web(f"people 1\nbar {figures}\nfree"), web_of(1, [], [int(figures)], None))
            self.refused_at(1, f"people 1\nbar {figures}1\nfree")
            self.refused_at(1, f"people 1\nbar {sign}0{figures}\nfree")
            self.refused_at(1, f"people 1\nbar {sign}0{figures[:-1]}\nfree")
        self.refused_at(2, "people 2\nbar 0\nbar " + "9" * 5000)
        self.refused_at(0, "people " + "1" * 61)
        self.refused_at(0, "people " + "1" * 60)

    def test_thirty_people_and_others(self):
        for many in [1, 9, 10, 30]:
            text = "\n".join([f"people {many}"] + ["bar 0"] * many + ["free"] * many)
            self.assertEqual(read_web(text), web_of(many, [], None, None))
        for many in ["0", "-1", "31", "300", "-30", "9" * 60]:
            self.refused_at(0, f"people {many}")
            self.refused_at(0, f"people {many}\nbar 0\nfree")

    def test_thirty_people_all_tied(self):
        ties = [(one, other, 400) for one in range(30) for other in range(one + 1, 30)]
        web = web_of(30, ties, [-GREATEST] * 30, [1] * 30)
        self.assertEqual(read_web(show_web(web)), web)

    def test_numbers_ill_written(self):
        for number in ["", "-", "-0", "00", "01", "+1", "+0", "-01", "1-", "--1", "1.0", "1e1", "x", "1_0", " 1", "1 ",
                       "1 1", "0x1", "1,0", "~", "-" + "0" * 60, "0" * 60]:
            self.refused_at(0, f"people {number}")
            self.refused_at(1, f"people 1\nbar {number}\nfree")
            self.refused_at(2, f"people 2\nbar 0\nbar {number}\nfree\nfree")
            self.refused_at(1, f"people 3\ntie {number} 2 1")
            self.refused_at(1, f"people 3\ntie 0 {number} 1")
            self.refused_at(1, f"people 3\ntie 0 1 {number}")
            self.refused_at(2, f"people 1\nbar 0\nstays {number}")

    def test_other_signs_that_are_figures_to_python(self):
        for number in ["\u0663", "\u00b2", "\uff11", "1\u0660"]:
            self.refused_at(0, f"people {number}")
            self.refused_at(1, f"people 2\nbar {number}")
            self.refused_at(1, f"people 2\ntie 0 1 {number}")

    def test_ties(self):
        head = "people 12\n"
        for tie in ["1 0 5", "0 0 5", "11 11 1", "0 12 1", "12 13 1", "-1 0 1", "0 -1 1", "0 1 0", "0 1 401", "0 1 -1",
                    "0 1", "0 1 1 1", "0", "0 1 " + "9" * 60, "0 " + "9" * 60 + " 1", " 0 1 1", "0  1 1", "0 1 1 ", ""]:
            self.refused_at(1, f"{head}tie {tie}")
            self.refused_at(2, f"{head}tie 0 1 1\ntie {tie}")
        for tie in ["0 1 1", "0 11 400", "10 11 1"]:
            self.refused_at(2, f"{head}tie {tie}")

    def test_ties_not_sorted_or_told_twice(self):
        for first, second in [("2 3 1", "0 1 1"), ("0 2 1", "0 1 1"), ("0 10 1", "0 2 1"), ("10 11 1", "2 3 1"),
                              ("0 1 1", "0 1 1"), ("0 1 1", "0 1 2"), ("0 1 2", "0 1 1"), ("1 2 1", "0 3 1"),
                              ("0 1 1", "1 0 1")]:
            self.refused_at(2, f"people 12\ntie {first}\ntie {second}\nbar 0")
        self.refused_at(4, "people 12\ntie 0 1 1\ntie 0 2 1\ntie 2 3 1\ntie 0 3 1")

    def test_lines_out_of_their_place(self):
        self.refused_at(2, "people 2\nbar 0\ntie 0 1 1\nbar 0\nfree\nfree")
        self.refused_at(3, "people 2\nbar 0\nbar 0\ntie 0 1 1\nfree\nfree")
        self.refused_at(3, "people 2\nbar 0\nbar 0\nbar 0\nfree\nfree")
        self.refused_at(2, "people 2\nbar 0\nfree\nfree")
        self.refused_at(1, "people 2\nfree\nfree\nbar 0\nbar 0")
        self.refused_at(4, "people 2\nbar 0\nbar 0\nfree\nbar 0")
        self.refused_at(1, "people 2\npeople 2\nbar 0\nbar 0\nfree\nfree")
        self.refused_at(0, "bar 0\npeople 1\nfree")
        for word in ["tie", "bar", "", "free ", " free", "Free", "stays", "stays 2", "stays -1", "stays 00", "stays  1",
                     "stays free", "stays 0 ", "free free", "stays None", "stays 1 1"]:
            self.refused_at(2, f"people 1\nbar 0\n{word}")

    def test_too_many_lines_and_too_few(self):
        for text in [FOUR_TEXT, TWO_TEXT, "people 1\nbar 0\nfree"]:
            lines = text.split("\n")
            for many in range(1, len(lines)):
                self.refused_at(many, "\n".join(lines[:many]))
                self.refused_at(many, "\n".join(lines[:many]) + "\n")
            for more in ["free", "bar 0", "tie 0 1 1", "stays 1", "people 1", "", " ", "x", "\n", "\n\nfree"]:
                self.refused_at(len(lines), f"{text}\n{more}")

    def test_blanks_and_line_feeds(self):
        for text in ["", " ", "\n", "\n\n", "\n" + TWO_TEXT, " " + TWO_TEXT, TWO_TEXT.replace("\n", " "),
                     TWO_TEXT.replace("\n", "\n\n", 1).replace("people 2", "people"), "people", "people ", "People 2"]:
            self.refused_at(0, text)
        self.refused_at(6, TWO_TEXT + "\n")
        self.refused_at(5, TWO_TEXT + " ")
        self.refused_at(1, TWO_TEXT.replace("\n", "\n\n"))
        lines = TWO_TEXT.split("\n")
        for place, line in enumerate(lines):
            for wrong in [line + " ", " " + line, line.replace(" ", "  ", 1), line.replace(" ", "\t")]:
                if wrong != line:
                    self.refused_at(place, "\n".join(lines[:place] + [wrong] + lines[place + 1:]))

    def test_line_ends_of_other_kinds(self):
        for end in ["\r\n", "\r", "\x0b", "\x0c", "\x1c", "\u2028", "\x85"]:
            self.refused_at(0, TWO_TEXT.replace("\n", end))

    def test_what_is_no_text(self):
        for thing in NO_TEXTS:
            self.refused_at(0, thing)

    def test_each_line_left_out_told_twice_exchanged(self):
        for text in [FOUR_TEXT, TWO_TEXT]:
            lines = text.split("\n")
            texts = []
            for place in range(len(lines)):
                texts.append(lines[:place] + lines[place + 1:])
                texts.append(lines[:place + 1] + lines[place:])
                for other in range(place):
                    exchanged = list(lines)
                    exchanged[place], exchanged[other] = lines[other], lines[place]
                    texts.append(exchanged)
            for changed in texts:
                self.read_or_refused("\n".join(changed))

    def test_altered_at_each_sign(self):
        read = 0
        for text in [FOUR_TEXT, TWO_TEXT]:
            for place in range(len(text) + 1):
                self.read_or_refused(text[:place] + text[place + 1:])
                for sign in SIGNS:
                    read += self.read_or_refused(text[:place] + sign + text[place + 1:])
                    self.read_or_refused(text[:place] + sign + text[place:])
        self.assertGreater(read, 100)

    def test_lines_that_are_altered_by_hand(self):
        for place, line, told in [(0, "people 5", 8), (0, "people 3", 7), (0, "people 2", 2), (1, "tie 0 3 2", 2),
                                  (1, "tie 0 1 400", None), (2, "tie 0 3 1", None), (2, "tie 1 2 1", 3),
                                  (3, "bar 1", 7), (4, "bar -4", None), (4, "free", 4), (4, "tie 2 3 9", 8),
                                  (7, "free", 7), (8, "bar 1", 8), (8, "stays 0", None), (11, "stays", 11)]:
            lines = FOUR_TEXT.split("\n")
            lines[place] = line
            text = "\n".join(lines)
            if told is None:
                self.assertEqual(show_web(read_web(text)), text)
            else:
                self.refused_at(told, text)

    def test_the_slow_reckoning_of_lines(self):
        self.assertEqual([wrong_line(text) for text in ["", "people 1", "people 1\nbar 0", "people 2\nbar 0\nfree",
                                                        FOUR_TEXT, FOUR_TEXT + "\n", "people 2\ntie 1 0 3"]],
                         [0, 1, 2, 2, 12, 12, 1])


class Stands(unittest.TestCase):

    def test_shown(self):
        self.assertEqual(show_stand((0, 0, 1, 0)), "0010")
        self.assertEqual(show_stand((1,)), "1")
        self.assertEqual(show_stand((0, 1) * 15), "01" * 15)

    def test_read(self):
        self.assertEqual(read_stand(FOUR, "0010"), (0, 0, 1, 0))
        self.assertEqual(read_stand(FOUR, "1111"), (1, 1, 1, 1))
        self.assertEqual(read_stand(web_of(30, [], None, None), "01" * 15), (0, 1) * 15)

    def test_many(self):
        for told, web in families(100):
            for stand in stands_of(told):
                self.assertEqual(read_stand(web, show_stand(stand)), stand)
            every = stands_of((told[0], told[1], told[2], None))
            for stand in every:
                if stand not in stands_of(told):
                    refused(self, NoStand, read_stand, web, show_stand(stand))

    def test_kinds(self):
        self.assertEqual(type(read_stand(FOUR, "0010")), tuple)
        self.assertEqual({type(opinion) for opinion in read_stand(FOUR, "0010")}, {int})

    def test_refused(self):
        for text in ["", "0", "001", "00100", "0000", "1101", "0012", "001-", "001 ", " 001", "00 1", " 0010", "0010 ",
                     "0010\n", "\n0010", "00\n10", "001x", "oo1o", "0,0,1,0", "(0, 0, 1, 0)", "-010", "+010", "0" * 500,
                     "1" * 8000, "001\u0660", "00\u00b90"]:
            refused(self, NoStand, read_stand, FOUR, text)

    def test_what_is_no_text(self):
        for thing in [(0, 0, 1, 0), [0, 0, 1, 0], ("0", "0", "1", "0"), ["0", "0", "1", "0"], 10, b"0010", *NO_TEXTS]:
            refused(self, NoStand, read_stand, FOUR, thing)


class OneText(Texts):

    def test_unlike_webs_have_unlike_texts(self):
        webs = {show_web(web): web for told, web in families(400)}
        self.assertEqual(len(webs), len(set(webs.values())))

    def test_a_text_refused_is_none_of_the_other_refusals(self):
        # A web of these ties would be refused with NoWeb; of the text it is NoText.
        with self.assertRaises(NoWeb):
            web_of(2, [(0, 1, 401)], None, None)
        self.refused_at(1, "people 2\ntie 0 1 401\nbar 0\nbar 0\nfree\nfree")
