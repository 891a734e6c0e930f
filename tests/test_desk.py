import unittest
from itertools import product

from followmost.changes import with_bar, with_stay, with_tie
from followmost.desk import Desk
from followmost.errors import MostError, NoPeople, NoRest, NoRow, NoStand, NoText, NoWeb, TooMuch
from followmost.fewest import fewest
from followmost.histories import ended
from followmost.orders import is_rest, weight
from followmost.rests import greatest_rest, joined, least_rest, met, pairs, rests
from followmost.sways import turns_all
from followmost.texts import show_stand, show_web
from followmost.turns import turn
from followmost.webs import web_of
from tests.samples import FOUR, GREATEST, NO_NUMBERS, REFUSALS, all_lists, families, refused, stands_of

FOUR_TEXT = show_web(FOUR)
TWO_TEXT = "people 2\ntie 0 1 1\nbar 1\nbar 1\nfree\nfree"
# Person 0 stays with 0; all hold what they held but for it.
NOUGHT_TEXT = "people 2\nbar 0\nbar 0\nstays 0\nfree"

# How many words stand behind the first, and some that are well written, in FOUR.
ROWS = {"show": [], "turn": ["0010"], "ended": ["0010"], "weight": ["0010"], "least": [], "greatest": [],
        "rests": [], "pairs": [], "joined": ["1110", "1111"], "met": ["1110", "1111"], "fewest": [],
        "tie": ["0", "1", "2"], "bar": ["0", "4"], "stay": ["0", "free"]}

ILL_WRITTEN = ["", "-", "-0", "00", "01", "+1", "1.0", "x", "1x", "--1", "0x1", "1_0", "1\n", "\n", "0" * 60, "9" * 61,
               "-" + "9" * 61, "~", "None", "Free", "A", "\u0661", "\u00b2"]


def alone(many, bar, stays=None):
    return show_web(web_of(many, [], [bar] * many, stays))


class Rows(unittest.TestCase):

    def test_show(self):
        self.assertEqual(Desk(FOUR_TEXT).say("show"), FOUR_TEXT)
        self.assertEqual(Desk(TWO_TEXT).say("show"), TWO_TEXT)

    def test_turn(self):
        self.assertEqual(Desk(FOUR_TEXT).say("turn 0010"), "0110")
        self.assertEqual(Desk(FOUR_TEXT).say("turn 0111"), "1111")
        self.assertEqual(Desk(TWO_TEXT).say("turn 01"), "10")

    def test_ended(self):
        self.assertEqual(Desk(FOUR_TEXT).say("ended 0010"), "rest 2 1110")
        self.assertEqual(Desk(FOUR_TEXT).say("ended 1111"), "rest 0 1111")
        self.assertEqual(Desk(TWO_TEXT).say("ended 01"), "pair 0 01 10")
        self.assertEqual(Desk(TWO_TEXT).say("ended 10"), "pair 0 10 01")
        self.assertEqual(Desk("people 3\ntie 0 1 1\nbar 1\nbar 1\nbar -1\nfree\nfree\nfree").say("ended 010"),
                         "pair 1 101 011")

    def test_weight(self):
        self.assertEqual(Desk(FOUR_TEXT).say("weight 0010"), "4")
        self.assertEqual(Desk(FOUR_TEXT).say("weight 1111"), "0")
        self.assertEqual(Desk(FOUR_TEXT).say("weight 0110"), "2")
        self.assertEqual(Desk(alone(2, -7)).say("weight 11"), "-14")
        self.assertEqual(Desk(alone(2, GREATEST)).say("weight 11"), str(2 * GREATEST))

    def test_least_and_greatest(self):
        self.assertEqual(Desk(FOUR_TEXT).say("least"), "1110")
        self.assertEqual(Desk(FOUR_TEXT).say("greatest"), "1111")
        self.assertEqual(Desk(NOUGHT_TEXT).say("least"), "00")
        self.assertEqual(Desk(NOUGHT_TEXT).say("greatest"), "01")

    def test_rests_and_pairs(self):
        self.assertEqual([Desk(FOUR_TEXT).say(row) for row in ["rests", "pairs"]], ["2", "0"])
        self.assertEqual([Desk(TWO_TEXT).say(row) for row in ["rests", "pairs"]], ["2", "1"])
        self.assertEqual(Desk(alone(12, 0)).say("rests"), "4096")
        self.assertEqual(Desk(alone(12, 0)).say("pairs"), "0")

    def test_joined_and_met(self):
        self.assertEqual(Desk(FOUR_TEXT).say("joined 1110 1111"), "1111")
        self.assertEqual(Desk(FOUR_TEXT).say("met 1110 1111"), "1110")
        desk = Desk("people 3\ntie 0 2 1\ntie 1 2 1\nbar 0\nbar 0\nbar 3\nfree\nfree\nfree")
        self.assertEqual(desk.say("joined 100 010"), "111")
        self.assertEqual(desk.say("met 100 010"), "000")
        self.assertEqual(desk.say("joined 100 000"), "100")

    def test_sways(self):
        self.assertEqual(Desk(FOUR_TEXT).say("sways"), "no")
        self.assertEqual(Desk(FOUR_TEXT).say("sways 3"), "yes")
        self.assertEqual(Desk(FOUR_TEXT).say("sways 0 1"), "no")
        self.assertEqual(Desk(FOUR_TEXT).say("sways 0 1 2 3"), "yes")
        self.assertEqual(Desk(TWO_TEXT).say("sways 0"), "no")
        self.assertEqual(Desk(alone(30, -1)).say("sways"), "yes")
        self.assertEqual(Desk(alone(30, 0)).say("sways " + " ".join(map(str, range(30)))), "yes")
        self.assertEqual(Desk(alone(30, 0)).say("sways " + " ".join(map(str, range(29)))), "no")

    def test_fewest(self):
        self.assertEqual(Desk(FOUR_TEXT).say("fewest"), "3")
        self.assertEqual(Desk(TWO_TEXT).say("fewest"), "0 1")
        self.assertEqual(Desk(alone(2, -1)).say("fewest"), "nobody")
        self.assertEqual(Desk(alone(2, 5, [1, 1])).say("fewest"), "nobody")
        self.assertEqual(Desk(NOUGHT_TEXT).say("fewest"), "none")
        self.assertEqual(Desk(alone(2, 1)).say("fewest"), "none")
        self.assertEqual(Desk(alone(9, 0)).say("fewest"), "0 1 2 3 4 5 6 7 8")

    def test_tie(self):
        for row, one, other, heft in [("tie 0 3 7", 0, 3, 7), ("tie 3 0 7", 0, 3, 7), ("tie 0 1 400", 0, 1, 400),
                                      ("tie 1 0 0", 0, 1, 0), ("tie 0 3 0", 0, 3, 0), ("tie 0 1 1", 0, 1, 1)]:
            desk = Desk(FOUR_TEXT)
            self.assertEqual(desk.say(row), "ok")
            self.assertEqual(desk.say("show"), show_web(with_tie(FOUR, one, other, heft)))

    def test_bar(self):
        for bar in [0, 5, -5, 4, GREATEST, -GREATEST]:
            desk = Desk(FOUR_TEXT)
            self.assertEqual(desk.say(f"bar 3 {bar}"), "ok")
            self.assertEqual(desk.say("show"), show_web(with_bar(FOUR, 3, bar)))

    def test_stay(self):
        for word, stay in [("free", None), ("0", 0), ("1", 1)]:
            for person in [0, 2]:
                desk = Desk(FOUR_TEXT)
                self.assertEqual(desk.say(f"stay {person} {word}"), "ok")
                self.assertEqual(desk.say("show"), show_web(with_stay(FOUR, person, stay)))

    def test_changes_are_kept(self):
        desk = Desk(FOUR_TEXT)
        self.assertEqual([desk.say(row) for row in ["stay 2 free", "bar 3 -1", "tie 2 3 9", "bar 2 6", "stay 0 0"]],
                         ["ok"] * 5)
        web = with_bar(with_tie(with_bar(with_stay(FOUR, 2, None), 3, -1), 2, 3, 9), 2, 6)
        web = with_stay(web, 0, 0)
        self.assertEqual(desk.say("show"), show_web(web))
        self.assertEqual(desk.say("turn 0000"), show_stand(turn(web, (0, 0, 0, 0))))
        self.assertEqual(desk.say("least"), show_stand(least_rest(web)))

    def test_many(self):
        for told, web in families(100):
            desk = Desk(show_web(web))
            self.assertEqual(desk.say("show"), show_web(web))
            self.assertEqual(desk.say("least"), show_stand(least_rest(web)))
            self.assertEqual(desk.say("greatest"), show_stand(greatest_rest(web)))
            self.assertEqual(desk.say("rests"), str(len(rests(web))))
            self.assertEqual(desk.say("pairs"), str(len(pairs(web))))
            for stand in stands_of(told):
                shown = show_stand(stand)
                self.assertEqual(desk.say(f"turn {shown}"), show_stand(turn(web, stand)))
                self.assertEqual(desk.say(f"weight {shown}"), str(weight(web, stand)))
                turns, word, stands = ended(web, stand)
                words = [word, str(turns), show_stand(stands[turns])]
                words += [show_stand(stands[turns + 1])] if word == "pair" else []
                self.assertEqual(desk.say(f"ended {shown}"), " ".join(words))
            for one, other in product(rests(web), repeat=2):
                behind = f"{show_stand(one)} {show_stand(other)}"
                self.assertEqual(desk.say(f"joined {behind}"), show_stand(joined(web, one, other)))
                self.assertEqual(desk.say(f"met {behind}"), show_stand(met(web, one, other)))
            for some in all_lists(web):
                self.assertEqual(desk.say(" ".join(["sways", *map(str, some)])),
                                 "yes" if turns_all(web, some)[0] == "turn" else "no")
            answer = fewest(web)
            people = "none" if answer is None else " ".join(map(str, answer[0])) or "nobody"
            self.assertEqual(desk.say("fewest"), people)
            self.assertEqual(desk.say("show"), show_web(web))

    def test_every_answer_is_a_text(self):
        for word, behind in ROWS.items():
            self.assertEqual(type(Desk(FOUR_TEXT).say(" ".join([word, *behind]))), str)


class Made(unittest.TestCase):

    def test_no_text_of_a_web(self):
        for text, line in [("", 0), ("people 2", 1), (TWO_TEXT + "\n", 6), ("people 1\nbar 01\nfree", 1), (None, 0),
                           (5, 0), (FOUR, 0), ([TWO_TEXT], 0), (b"people 1\nbar 0\nfree", 0)]:
            with self.assertRaises(MostError) as taken:
                Desk(text)
            self.assertEqual([kind for kind in REFUSALS if isinstance(taken.exception, kind)], [NoText])
            self.assertEqual(taken.exception.line, line)

    def test_two_desks_keep_their_own_webs(self):
        one, other = Desk(FOUR_TEXT), Desk(FOUR_TEXT)
        one.say("bar 0 77")
        self.assertEqual(other.say("show"), FOUR_TEXT)
        other.say("stay 1 0")
        self.assertEqual(one.say("show"), show_web(with_bar(FOUR, 0, 77)))
        self.assertEqual(other.say("show"), show_web(with_stay(FOUR, 1, 0)))
        self.assertEqual(Desk(FOUR_TEXT).say("show"), FOUR_TEXT)


class Refused(unittest.TestCase):

    def refused(self, kind, row, text=FOUR_TEXT):
        desk = Desk(text)
        refused(self, kind, desk.say, row)
        self.assertEqual(desk.say("show"), text)

    def test_another_first_word(self):
        for row in ["", " ", "Show", "SHOW", "shown", "sho", "0010", "turns 0010", "Turn 0010", "history 0010 3", "\n",
                    "show\n", "\nshow", "sways\n", "person", "stand 0010", "people 4", "free", "stays 0", "-", "gone 0010 0",
                    "rest", "pair", "read", "named", "fewest\n3"]:
            self.refused(NoRow, row)

    def test_too_few_words_and_too_many(self):
        for word, behind in ROWS.items():
            for many in range(6):
                if many != len(behind):
                    for filler in ["0", "0010", "free", ""]:
                        words = (behind + [filler] * 6)[:many]
                        self.refused(NoRow, " ".join([word, *words]))

    def test_two_blanks_and_a_blank_at_an_end(self):
        for word, behind in ROWS.items():
            row = " ".join([word, *behind])
            for wrong in [" " + row, row + " ", "  " + row, row + "  ", row + " \n"]:
                self.refused(NoRow, wrong)
            for place, sign in enumerate(row):
                if sign == " ":
                    self.refused(NoRow, row[:place] + " " + row[place:])
        for row in [" sways", "sways ", "sways  ", "sways  0", "sways 0 ", "sways 0  3", " sways 0", "sways 0 3 "]:
            self.refused(NoRow, row)

    def test_a_word_without_signs_for_a_stand(self):
        for row in ["turn ", "ended ", "weight ", "joined  ", "joined  1110", "joined 1110 ", "met 1110 ", "met  1111"]:
            self.refused(NoStand, row)

    def test_a_word_without_signs_for_a_number(self):
        for row in ["bar 0 ", "bar  0", "tie  0 1", "tie 0  1", "tie 0 1 ", "stay 0 ", "stay  0", "stay  free", "sways "]:
            self.refused(NoRow, row)

    def test_numbers_ill_written(self):
        for number in ILL_WRITTEN:
            for row in [f"tie {number} 1 2", f"tie 0 {number} 2", f"tie 0 1 {number}", f"bar {number} 4",
                        f"bar 0 {number}", f"stay {number} 1", f"stay {number} free", f"stay 0 {number}",
                        f"sways {number}", f"sways 0 {number}", f"sways {number} 3"]:
                self.refused(NoRow, row)

    def test_free_stands_for_a_stay_alone(self):
        for row in ["tie 0 1 free", "tie free 1 2", "bar 0 free", "bar free 4", "stay free 1", "stay free free",
                    "sways free"]:
            self.refused(NoRow, row)
        for row in ["turn free", "joined free free"]:
            self.refused(NoStand, row)

    def test_what_is_no_text(self):
        for thing in [None, 0, 5, b"show", ["show"], ("show",), FOUR, {"show": 1},
                      *[thing for thing in NO_NUMBERS if not isinstance(thing, str)]]:
            self.refused(NoRow, thing)

    def test_a_person_that_is_not_there(self):
        for person in ["4", "5", "30", "-1", "-4", "9" * 60, "-" + "9" * 60]:
            for row in [f"tie {person} 1 2", f"tie 1 {person} 2", f"tie {person} {person} 2", f"bar {person} 4",
                        f"stay {person} 1", f"stay {person} free", f"sways {person}", f"sways 0 {person}",
                        f"sways {person} 0"]:
                self.refused(NoPeople, row)

    def test_no_stand(self):
        for stand in ["0", "001", "00100", "0000", "1101", "0012", "00x0", "-010", "0010\n", "free", "11110"]:
            for row in [f"turn {stand}", f"ended {stand}", f"weight {stand}", f"joined {stand} 1110",
                        f"joined 1110 {stand}", f"met {stand} {stand}", f"met 1111 {stand}", f"met {stand} 1111"]:
                self.refused(NoStand, row)

    def test_no_rest(self):
        self.assertFalse(is_rest(FOUR, (0, 0, 1, 0)))
        for word in ["joined", "met"]:
            for behind in ["0010 1110", "1110 0010", "0010 0010", "0110 1111"]:
                self.refused(NoRest, f"{word} {behind}")

    def test_no_people_to_sway(self):
        for row in ["sways 1 0", "sways 0 0", "sways 0 1 1", "sways 3 2 1 0"]:
            self.refused(NoPeople, row)
        self.refused(NoPeople, "sways 0", NOUGHT_TEXT)
        self.refused(NoPeople, "sways 0 1", NOUGHT_TEXT)

    def test_no_web(self):
        for row in ["tie 0 0 1", "tie 0 0 0", "tie 3 3 400", "tie 0 1 401", "tie 0 1 -1", "tie 0 1 " + "9" * 60,
                    "stay 0 2", "stay 0 -1", "stay 2 10", "stay 0 " + "9" * 60]:
            self.refused(NoWeb, row)

    def test_too_much(self):
        for row in ["rests", "pairs"]:
            self.refused(TooMuch, row, alone(13, 0))
            self.refused(TooMuch, row, alone(30, 0))
        self.refused(TooMuch, "fewest", alone(10, 0))
        self.refused(TooMuch, "fewest", alone(12, 0, [0, 0] + [None] * 10))

    def test_no_row_comes_ahead_of_all(self):
        for row in ["tie 9 0 x", "tie 9 0", "tie 9 0 401 1", "bar 9 01", "bar -1 +4", "stay 9 x", "sways 9 x",
                    "sways x 9", "sways 1 0 x", "sways 0 0 -0", "tie 0 0 -0", "tie 0 0 401 ", "tie 9 x 1",
                    "joined 0 0 0", "turn 0 0", "bar 9", "stay 9", "turn", "met 0010", "stay 2"]:
            self.refused(NoRow, row)

    def test_no_people_comes_ahead_of_no_web(self):
        for row in ["tie 9 0 401", "tie 0 9 401", "tie 9 9 0", "tie 4 4 -1", "stay 9 2", "stay -1 -1", "tie 0 4 0"]:
            self.refused(NoPeople, row)

    def test_no_stand_comes_ahead_of_no_rest(self):
        for row in ["joined 0010 0000", "joined 0000 0010", "met 0010 001", "met x 0010", "joined 0010 "]:
            self.refused(NoStand, row)

    def test_what_is_refused_changes_nothing(self):
        desk = Desk(FOUR_TEXT)
        desk.say("bar 0 9")
        shown = desk.say("show")
        for row in ["bar 9 9", "bar 0 x", "bar 0", "tie 0 0 3", "tie 0 1 401", "stay 0 2", "tie 0 9 1", "", None, 7]:
            with self.assertRaises(MostError):
                desk.say(row)
            self.assertEqual(desk.say("show"), shown)

    def test_asking_changes_nothing(self):
        desk = Desk(FOUR_TEXT)
        for word, behind in ROWS.items():
            if word not in ("tie", "bar", "stay"):
                first = desk.say(" ".join([word, *behind]))
                self.assertEqual(desk.say(" ".join([word, *behind])), first)
                self.assertEqual(desk.say("show"), FOUR_TEXT)
