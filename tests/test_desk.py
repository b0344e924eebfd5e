"""Point 28, and points 2 and 3 as far as they touch the desk."""

import random
import re
import unittest

from knowcards.desk import Desk
from knowcards.errors import CardError, NoHand, NoPack, NoRow, NoSaying, TooMany
from knowcards.packs import cards_of
from knowcards.tables import Table
from knowcards.texts import read_saying, show_saying
from tests.things import (arguments, called_safely, chance_cards, chance_hands, chance_saying, deny, nested, reached_from,
                          strange_things)

NUMBER = "(?:0|[1-9][0-9]{0,3})"
GROUP = f"(?:-|{NUMBER}(?:,{NUMBER})*)"
HOLDER = f"(?:pile|{NUMBER})"
# The rows of the interface, each sign written out.
FORMS = [re.compile(form) for form in (
    f"deal ({NUMBER})((?: {NUMBER}){{1,5}})",
    f"word (?P<group>{GROUP}) (?P<text>.*)",
    f"show (?P<hand>{NUMBER}) (?P<holder>{HOLDER})(?P<cards>(?: {NUMBER})*)",
    f"knows (?P<hand>{NUMBER}) (?P<deal>{NUMBER}) (?P<text>.*)",
    f"common (?P<group>{GROUP}) (?P<deal>{NUMBER}) (?P<text>.*)",
    f"true (?P<deal>{NUMBER}) (?P<text>.*)",
    f"cards (?P<deal>{NUMBER}) (?P<holder>{HOLDER})",
    f"saw (?P<hand>{NUMBER}) (?P<deal>{NUMBER})",
)]


def group_of(text):
    return () if text == "-" else tuple(int(number) for number in text.split(","))


def row_of(row):
    """What the row is, or None: the match of its form."""
    for form in FORMS:
        match = form.fullmatch(row) if isinstance(row, str) else None
        if match:
            group = group_of(match.groupdict().get("group") or "-")
            return match if list(group) == sorted(set(group)) else None
    return None


def numbers_in(text):
    return [int(number) for number in text.split()]


class Other:
    """A second desk, by the document's words, over a table of its own: it tells what a row may be answered."""

    def __init__(self):
        self.table = None
        self.cards = 0
        self.hands = 0

    def refusal(self, row):
        match = row_of(row)
        if match is None:
            return NoRow
        if row.startswith("deal "):
            return self.refused_deal(match)
        if self.table is None:
            return NoPack
        if not self.has_numbers(match.groupdict()):
            return NoHand
        return self.refused_text(match.groupdict().get("text"))

    def refused_deal(self, match):
        try:
            Table(int(match[1]), numbers_in(match[2]))
        except CardError as refused:
            return type(refused)
        return None

    def has_numbers(self, parts):
        hands = list(group_of(parts.get("group") or "-"))
        hands += [int(parts[name]) for name in ("hand", "holder") if parts.get(name, "pile") != "pile"]
        cards = numbers_in(parts.get("cards") or "")
        return (all(hand < self.hands for hand in hands) and all(card < self.cards for card in cards)
                and int(parts.get("deal") or 0) < len(self.table.deals()))

    def refused_text(self, text):
        try:
            if text is not None:
                read_saying(self.cards, self.hands, text)
        except NoSaying:
            return NoSaying
        return None

    def holder(self, parts):
        return self.hands if parts["holder"] == "pile" else int(parts["holder"])

    def check(self, case, row, answer):
        """Whether a row that is not refused may be answered so; a deed is done here too."""
        match = row_of(row)
        word = row.split(" ")[0]
        if word == "deal":
            self.cards = int(match[1])
            self.hands = len(numbers_in(match[2]))
            self.table = Table(self.cards, numbers_in(match[2]))
            case.assertEqual(answer, str(len(self.table.deals())))
        else:
            getattr(self, "check_" + word)(case, match.groupdict(), answer)

    def check_word(self, case, parts, answer):
        self.table.word(group_of(parts["group"]), read_saying(self.cards, self.hands, parts["text"]))
        case.assertEqual(answer, "ok")

    def check_show(self, case, parts, answer):
        self.table.show(int(parts["hand"]), self.holder(parts), numbers_in(parts["cards"]))
        case.assertEqual(answer, "ok")

    def truths(self, parts):
        return self.table.truths(read_saying(self.cards, self.hands, parts["text"]))

    def check_true(self, case, parts, answer):
        case.assertEqual(answer, "yes" if self.truths(parts)[int(parts["deal"])] else "no")

    def check_knows(self, case, parts, answer):
        truths = self.truths(parts)
        view = self.table.view(int(parts["hand"]))
        alike = [deal for deal in range(len(view)) if view[deal] == view[int(parts["deal"])]]
        right = [f"not {deal}" for deal in alike if not truths[deal]]
        case.assertIn(answer, right or ["knows " + " ".join(map(str, alike))])

    def check_common(self, case, parts, answer):
        truths = self.truths(parts)
        group = group_of(parts["group"])
        views = dict((hand, self.table.view(hand)) for hand in group)
        start = int(parts["deal"])
        reached = sorted(reached_from(list(views.values()), start))
        if all(truths[deal] for deal in reached):
            case.assertEqual(answer, "common " + " ".join(map(str, reached)))
            return
        words = answer.split(" ")
        case.assertEqual(words[0], "road")
        deal = start
        for step in words[1:]:
            case.assertRegex(step, r"\A[0-9]+:[0-9]+\Z")
            hand, ahead = [int(number) for number in step.split(":")]
            case.assertIn(hand, group)
            case.assertNotEqual(ahead, deal)
            case.assertEqual(views[hand][ahead], views[hand][deal])
            deal = ahead
        case.assertIs(truths[deal], False)
        case.assertEqual(len(words) - 1, self.shortest(views, truths, start))

    def shortest(self, views, truths, start):
        found = {start}
        steps = 0
        while all(truths[deal] for deal in found):
            found = {other for view in views.values() for deal in found for other in range(len(view))
                     if view[other] == view[deal]}
            steps += 1
        return steps

    def check_cards(self, case, parts, answer):
        held = cards_of(self.table.deals()[int(parts["deal"])], self.holder(parts))
        case.assertEqual(answer, " ".join(map(str, held)) or "none")

    def check_saw(self, case, parts, answer):
        seen = self.table.saw(int(parts["hand"]), int(parts["deal"]))
        words = {True: "yes", False: "no", None: "none"}
        shown = [words[value] if value is None or type(value) is bool else str(value) for value in seen[1:]]
        case.assertEqual(answer, " ".join([",".join(map(str, seen[0])) or "-"] + shown))


class DeskCase(unittest.TestCase):
    def told(self, *rows):
        """A desk that was told these rows."""
        desk = Desk()
        for row in rows:
            desk.say(row)
        return desk

    def check_answers(self, desk, pairs):
        for row, expected in pairs:
            answer = desk.say(row)
            self.assertIs(type(answer), str)
            self.assertEqual(answer, expected, row)

    def standing(self, desk):
        """All that a desk answers, but of the sayings only a few; the refusals too."""
        try:
            desk.say("cards 0 pile")
        except NoPack:
            return NoPack
        hands = self.counted(desk, "saw {} 0")
        deals = self.counted(desk, "cards {} pile")
        rows = [f"cards {deal} {who}" for deal in range(deals) for who in list(range(hands)) + ["pile"]]
        rows += [f"saw {hand} {deal}" for deal in range(deals) for hand in range(hands)]
        rows += [f"common 0 {deal} knows 0 sees {hands - 1}" for deal in range(deals)]
        return [desk.say(row) for row in rows]

    def counted(self, desk, form):
        number = 0
        while True:
            try:
                desk.say(form.format(number))
            except NoHand:
                return number
            number += 1

    def check_refused(self, refusal, desk, *rows):
        for row in rows:
            with self.assertRaises(refusal, msg=repr(row)) as taken:
                called_safely(self, desk.say, row)
            self.assertIs(type(taken.exception), refusal, repr(row))

    def check_refused_quietly(self, refusal, desk, *rows):
        before = self.standing(desk)
        self.check_refused(refusal, desk, *rows)
        self.assertEqual(self.standing(desk), before)


class InterfaceTest(unittest.TestCase):
    def test_arguments(self):
        self.assertEqual(arguments(Desk), [])
        self.assertEqual(arguments(Desk().say), ["row"])


class AnswersTest(DeskCase):
    def test_deal(self):
        self.check_answers(Desk(), [
            ("deal 3 1 1", "6"), ("deal 0 0", "1"), ("deal 12 0", "1"), ("deal 12 12", "1"), ("deal 12 1 3", "1980"),
            ("deal 5 1 1 1 1 1", "120"), ("deal 4 0 0 0 0 0", "1"), ("deal 7 3 3 1", "140"), ("deal 12 1 11", "12"),
        ])

    def test_cards(self):
        self.check_answers(self.told("deal 3 1 1"), [
            ("cards 0 0", "0"), ("cards 0 1", "1"), ("cards 0 pile", "2"), ("cards 5 0", "2"), ("cards 5 1", "1"),
            ("cards 3 pile", "1"),
        ])
        self.check_answers(self.told("deal 5 3 0 2"), [
            ("cards 0 0", "0 1 2"), ("cards 0 1", "none"), ("cards 0 2", "3 4"), ("cards 0 pile", "none"),
            ("cards 9 0", "2 3 4"), ("cards 9 2", "0 1"),
        ])
        self.check_answers(self.told("deal 12 1"), [("cards 11 pile", "0 1 2 3 4 5 6 7 8 9 10"), ("cards 11 0", "11")])
        self.check_answers(self.told("deal 0 0"), [("cards 0 0", "none"), ("cards 0 pile", "none")])

    def test_true(self):
        self.check_answers(self.told("deal 3 1 1"), [
            ("true 0 holds 0 0", "yes"), ("true 2 holds 0 0", "no"), ("true 0 holds pile 2", "yes"),
            ("true 0 (holds 0 1 or holds 1 1)", "yes"), ("true 0 knows 1 holds 0 0", "no"), ("true 5 sees 0", "no"),
            ("true 4 not (holds 0 0 and holds 1 1)", "yes"), ("true 4 all - holds 0 0", "yes"),
            ("true 4 common 0,1 holds 0 0", "no"),
        ])

    def test_knows(self):
        self.check_answers(self.told("deal 3 1 1"), [
            ("knows 0 0 holds 0 0", "knows 0 1"), ("knows 0 1 holds 0 0", "knows 0 1"),
            ("knows 1 0 holds 0 0", "not 5"), ("knows 1 5 holds 0 0", "not 5"),
            ("knows 1 3 not holds 0 0", "knows 2 3"), ("knows 0 4 holds 1 0", "not 4"),
        ])
        self.check_answers(self.told("deal 0 0"), [("knows 0 0 sees 0", "knows 0"), ("knows 0 0 not sees 0", "not 0")])

    def test_common(self):
        desk = self.told("deal 3 1 1")
        self.check_answers(desk, [
            ("common 0 0 holds 0 0", "common 0 1"), ("common - 0 holds 0 0", "common 0"),
            ("common - 3 holds 0 0", "road"), ("common 0,1 3 holds 0 0", "road"), ("common 1 0 holds 0 0", "road 1:5"),
            ("common 0,1 0 holds 0 0", "road 1:5"), ("common 0,1 0 not holds 0 1", "road 0:1 1:4"),
            ("common 0,1 0 (holds 0 0 or not holds 0 0)", "common 0 1 2 3 4 5"),
        ])
        desk.say("word 0,1 holds 0 0")
        self.check_answers(desk, [("common 0,1 0 holds 0 0", "common 0 1"), ("common 0,1 1 holds 0 0", "common 0 1")])

    def test_a_road_of_several_hands(self):
        desk = self.told("deal 4 0 1 1")
        other = Other()
        other.check(self, "deal 4 0 1 1", "12")
        row = "common 1,2 0 not (holds 1 1 and holds 2 0)"
        answer = desk.say(row)
        other.check(self, row, answer)
        self.assertEqual(len(answer.split(" ")), 4)

    def test_words_shows_and_what_was_seen(self):
        self.check_answers(Desk(), [
            ("deal 3 1 1", "6"), ("saw 0 0", "0"), ("word 0,1 holds 0 0", "ok"), ("show 1 pile 2 1", "ok"),
            ("saw 1 0", "1 yes 2"), ("saw 1 1", "2 yes 1"), ("saw 1 4", "2 no none"), ("saw 0 0", "0 yes"),
            ("saw 0 5", "2 no"), ("word - sees 0", "ok"), ("saw 0 5", "2 no"), ("show 0 1", "ok"),
            ("saw 0 5", "2 no none"), ("word 0 sees 1", "ok"), ("saw 0 5", "2 no none yes"),
            ("knows 0 5 sees 1", "knows 3 5"), ("true 5 sees 1", "yes"), ("show 0 1 0 1 1 0 2", "ok"),
            ("saw 0 0", "0 yes none yes 1"), ("saw 0 5", "2 no none yes 1"), ("saw 0 4", "1 no none yes 2"),
            ("saw 0 3", "2 no none yes 0"), ("saw 1 4", "2 no none"), ("knows 0 5 sees 1", "knows 5"),
        ])

    def test_the_cards_that_were_seen(self):
        self.check_answers(self.told("deal 12 11 0", "word 1 holds 0 0"), [
            ("saw 0 0", "0,1,2,3,4,5,6,7,8,9,10"), ("saw 1 0", "- yes"), ("saw 1 11", "- no"),
        ])
        self.check_answers(self.told("deal 0 0", "show 0 pile", "word 0 sees 0"), [("saw 0 0", "- none yes")])

    def test_deal_in_the_place_of_an_old_table(self):
        desk = self.told("deal 3 1 1", "word 0 holds 1 1")
        self.check_answers(desk, [
            ("saw 0 0", "0 yes"), ("deal 3 1 1", "6"), ("saw 0 0", "0"), ("deal 5 2 2", "30"), ("cards 29 1", "1 2"),
            ("deal 1 0", "1"), ("cards 0 pile", "0"),
        ])
        self.check_refused(NoHand, desk, "cards 1 pile", "saw 1 0")

    def test_a_deal_that_is_refused(self):
        desk = self.told("deal 3 1 1", "word 0 holds 1 1")
        self.check_refused_quietly(NoPack, desk, "deal 13 1", "deal 3 2 2", "deal 3 4", "deal 0 1", "deal 9999 0",
                                   "deal 12 9999", "deal 12 3 3 3 3 3", "deal 13 0 0 0 0 0")
        self.check_refused_quietly(TooMany, desk, "deal 12 6 3 0 0 0", "deal 12 2 2",
                                   "deal 12 2 2 2 2 2", "deal 7 1 1 1 1 1")
        self.check_refused_quietly(NoRow, desk, "deal", "deal 3", "deal 3 1 1 1 1 1 1", "deal 3 ", "deal x 1")
        self.check_answers(desk, [("saw 0 0", "0 yes"), ("saw 0 1", "0 no")])
        fresh = Desk()
        self.check_refused_quietly(NoPack, fresh, "deal 13 1", "deal 3 2 2")
        self.check_refused_quietly(TooMany, fresh, "deal 12 2 2")
        self.check_answers(fresh, [("deal 3 1 1", "6")])

    def test_large_tables(self):
        desk = self.told("deal 12 1 3")
        self.assertEqual(desk.say("common 0,1 1979 (sees 0 or not sees 0)"), "common " + " ".join(map(str, range(1980))))
        self.check_answers(desk, [("cards 1979 1", "8 9 10"), ("saw 1 1979", "8,9,10"), ("cards 1979 0", "11")])
        self.check_refused(NoHand, desk, "saw 0 1980", "cards 1980 0", "true 1980 sees 0")


class RefusalsTest(DeskCase):
    def desks(self):
        return [Desk(), self.told("deal 4 1 1 1", "word 0,2 sees 1", "show 1 pile 2 0")]

    def check_no_rows(self, *rows):
        for desk in self.desks():
            self.check_refused_quietly(NoRow, desk, *rows)

    def test_things_that_are_no_text(self):
        things = [thing for thing in strange_things() if not isinstance(thing, str)]
        self.check_no_rows(*things)
        self.check_no_rows(["deal 3 1 1"], ("deal", "3", "1"), {"deal 3 1 1": "deal 3 1 1"}, ["deal", "3", "1"])

    def test_other_first_words(self):
        self.check_no_rows("", " ", "  ", "x", "deals 3 1", "Deal 3 1", "DEAL 3 1", "words 0 sees 0", "know 0 0 sees 0",
                           "commons 0 0 sees 0", "trues 0 sees 0", "not 0", "yes", "ok", "card 0 0", "see 0 0", "0", "-",
                           "deal,3,1", "holds 0 0", "sees 0", "number 0", "again", "view 0", "truths 0", "~" * 4000)

    def test_too_few_words(self):
        self.check_no_rows("deal", "deal 3", "word", "word 0", "word -", "show", "show 0", "knows", "knows 0", "knows 0 0",
                           "common", "common 0", "common 0 0", "common - 0", "true", "true 0", "cards", "cards 0",
                           "cards pile", "saw", "saw 0")

    def test_too_many_words(self):
        self.check_no_rows("deal 3 1 1 1 0 0 0", "deal 3 0 0 0 0 0 0", "cards 0 0 0", "cards 0 pile 0", "cards 0 pile pile",
                           "saw 0 0 0", "saw 0 0 sees 0", "cards 0 0 sees 0")

    def test_blanks(self):
        self.check_no_rows("deal  3 1 1", "deal 3  1 1", "deal 3 1 1 ", " deal 3 1 1", "deal 3 1 1  1", "deal ", "deal 3 ",
                           "word  0 sees 0", " word 0 sees 0", "word 0", "word ", "show 0 pile ", "show 0  pile",
                           "show  0 pile", "show 0 pile 1 ", "show 0 pile  1", "show 0 pile 1  1", "show 0 ",
                           "knows  0 0 sees 0", "knows 0  0 sees 0", "knows 0 ", "common  0 0 sees 0",
                           "common 0  0 sees 0", "true  0 sees 0", "true ", "true  ", "cards  0 0", "cards 0  0",
                           "cards 0 0 ", "cards 0 pile ", " cards 0 0", "cards 0 ", "saw 0 0 ", "saw  0 0", "saw 0  0",
                           "saw 0 ", "saw  ", " saw 0 0")

    def test_texts_that_may_be_nothing(self):
        fresh, desk = self.desks()
        for row in ("word 0 ", "word - ", "knows 0 0 ", "common 0,1 0 ", "common - 0 ", "true 0 "):
            self.check_refused_quietly(NoPack, fresh, row)
            self.check_refused_quietly(NoSaying, desk, row)
            self.check_refused_quietly(NoRow, desk, row[:-1])

    def test_texts_with_blanks_at_an_end(self):
        for text in (" sees 0", "sees 0 ", "  ", " ", "sees  0", " sees 0 ", "( sees 0 or sees 1)"):
            for row in ("word 0 ", "word 0,1,2 ", "knows 0 0 ", "common 0,1 0 ", "true 0 "):
                self.check_refused_quietly(NoSaying, self.desks()[1], row + text)

    def wrong_numbers(self):
        return ["00", "01", "007", "0000", "00000", "10000", "12345", "99999", "0" * 4000, "9" * 3990, "9" * 5000, "+0",
                "+1", "-0", "-1", "1.0", "0.", "1e1", "0x1", "1_0", "0,", ",0", "x", "one", "~", "(0)", "'0'", "0:0", "0-1",
                "\t0", "0\t", "0\n", "\u0661", "\u00b2", "pile0", "Pile", "PILE", "true", "None"]

    def test_numbers(self):
        forms = ["deal {} 1", "deal 3 {}", "deal 3 1 {}", "deal 3 1 1 0 0 {}", "show {} pile 0", "show 0 {} 0", "show 0 {}",
                 "show 0 pile {}", "show 0 pile 0 {} 1", "knows {} 0 sees 0", "knows 0 {} sees 0", "common 0 {} sees 0",
                 "true {} sees 0", "cards {} 0", "cards 0 {}", "saw {} 0", "saw 0 {}", "word {} sees 0",
                 "common {} 0 sees 0"]
        fresh, desk = self.desks()
        before = self.standing(desk)
        for form in forms:
            self.check_refused(NoRow, desk, *[form.format(number) for number in self.wrong_numbers()])
            self.check_refused(NoRow, fresh, *[form.format(number) for number in self.wrong_numbers()])
        self.assertEqual(self.standing(desk), before)

    def test_places_that_take_neither_a_group_nor_the_pile(self):
        self.check_no_rows("deal pile 1", "deal 3 pile", "deal 3 -", "deal - 0", "show pile 0 0", "show 0 - 0", "show - 0 0",
                           "show 0,1 0 0", "show 0 0,1 0", "show 0 pile pile", "show 0 pile -", "show 0 pile 0,1",
                           "knows pile 0 sees 0", "knows 0,1 0 sees 0", "knows - 0 sees 0", "knows 0 pile sees 0",
                           "knows 0 - sees 0", "common pile 0 sees 0", "common 0 pile sees 0", "common 0 - sees 0",
                           "common 0,pile 0 sees 0", "true pile sees 0", "true - sees 0", "true 0,1 sees 0",
                           "cards pile 0", "cards pile pile", "cards 0 -", "cards 0 0,1", "saw pile 0", "saw 0 pile",
                           "saw - 0", "saw 0,1 0", "word pile sees 0")

    def test_groups(self):
        wrong = ["1,0", "0,0", "0,1,1", "0,2,1", "2,1,0", "0,1,0", "", ",", "0,", ",0", "0,,1", "-,0", "0,-", "--", "00",
                 "0,01", "0,+1", "0,-1", "0,12345", "10000", "0;1", "0, 1", "9999,0", "(0,1)", "0,1,2,3,4,3", "0.1",
                 "1,1", "2,2"]
        self.check_no_rows(*[f"word {group} sees 0" for group in wrong if group != "0, 1"])
        self.check_no_rows(*[f"common {group} 0 sees 0" for group in wrong])
        self.check_no_rows("word 0, sees 0", "word 0, 1 sees 0", "common 0 ,1 0 sees 0")

    def test_no_table(self):
        self.check_refused_quietly(NoPack, Desk(), "word 0 sees 0", "word - x", "show 0 pile", "show 0 pile 1", "show 9 9 9",
                                   "knows 0 0 sees 0", "knows 9999 9999 x", "common 0,1 0 sees 0", "common 0,9999 5 x",
                                   "true 0 sees 0", "true 9999 ", "cards 0 0", "cards 0 pile", "cards 9999 9999", "saw 0 0",
                                   "saw 9999 9999")

    def test_numbers_of_no_hand_card_or_deal(self):
        desk = self.desks()[1]
        texts = ("sees 0", "sees 3", "x", "")
        rows = ["show 3 0 0", "show 3 pile 0", "show 0 3 0", "show 0 4", "show 0 0 4", "show 0 pile 0 1 2 3 4",
                "show 0 pile 4 0", "show 9999 0", "show 0 9999", "show 0 0 9999", "cards 24 0", "cards 24 pile", "cards 0 3",
                "cards 0 4", "cards 9999 9999", "saw 3 0", "saw 0 24", "saw 9999 0", "saw 0 9999"]
        for text in texts:
            rows += ["word 3 " + text, "word 0,3 " + text, "word 0,1,2,3 " + text, "word 9999 " + text,
                     "knows 3 0 " + text, "knows 0 24 " + text, "knows 9999 9999 " + text, "common 3 0 " + text,
                     "common 0,1,3 0 " + text, "common 0 24 " + text, "common - 24 " + text, "true 24 " + text,
                     "true 9999 " + text]
        self.check_refused_quietly(NoHand, desk, *rows)

    def test_the_last_that_are_taken(self):
        desk = self.desks()[1]
        self.check_answers(desk, [("show 2 2 3", "ok"), ("show 2 pile 3 3 3", "ok"), ("word 0,1,2 sees 2", "ok"),
                                  ("cards 23 2", "1"), ("cards 23 pile", "0"), ("true 23 holds pile 3", "no")])

    def test_the_pile_by_its_number(self):
        # The pile is told by its word alone, by a row as by a text.
        desk = self.desks()[1]
        self.check_refused_quietly(NoHand, desk, "show 0 3", "show 0 3 0", "cards 0 3", "saw 3 0", "word 3 sees 0")
        self.check_refused_quietly(NoSaying, desk, "true 0 holds 3 0", "word 0 holds 3 0")
        self.check_answers(desk, [("cards 0 pile", "3"), ("true 0 holds pile 3", "yes"), ("show 0 pile", "ok")])

    def test_texts_that_are_no_sayings(self):
        desk = self.desks()[1]
        texts = ["x", "sees", "sees 3", "sees 00", "holds 0 4", "holds 4 0", "holds pile 04", "knows pile sees 0", "not",
                 "sees 0 sees 1", "(sees 0)", "sees 0 and sees 1", "(sees 0 and sees 1", "all 1,0 sees 0", "all 3 sees 0",
                 "common sees 0", "Sees 0", show_saying(3, nested(deny, ("sees", 0), 30)), "~" * 3900, "(" * 3900]
        for form in ("word 0 {}", "word - {}", "knows 0 0 {}", "common 0,1,2 0 {}", "common - 0 {}", "true 0 {}"):
            self.check_refused_quietly(NoSaying, desk, *[form.format(text) for text in texts])

    def test_the_longest(self):
        desk = self.desks()[1]
        thirty = show_saying(3, nested(deny, ("sees", 0), 29))
        self.check_answers(desk, [("word 0,1,2 " + thirty, "ok"), ("show 0 pile" + " 3" * 1990, "ok"),
                                  ("show 0 0" + " 0 1 2 3" * 498, "ok")])
        rising = ",".join([str(number) for number in range(900)])
        self.check_refused(NoHand, desk, f"word {rising} sees 0", f"common {rising} 0 sees 0")
        self.check_refused(NoRow, desk, f"word {rising},0 sees 0", "deal" + " 0" * 1990, "saw" + " 0" * 1990)
        self.check_refused(NoHand, desk, "show 0 pile" + " 3" * 1980 + " 4")

    def test_two_things_wrong(self):
        fresh, desk = self.desks()
        # NoRow ahead of NoPack, and ahead of the others.
        self.check_refused_quietly(NoRow, fresh, "saw 00 0", "word 1,0 x", "cards 0", "true x ", "deal 13 1 ", "deal 013 1")
        self.check_refused_quietly(NoRow, desk, "saw 00 9999", "word 1,0 x", "word 9999,0 x", "cards 9999 x", "true x x",
                                   "show 9999 pile 00", "knows 9999 00 x", "common 9999 00 x", "deal 13 01", "deal 99 x",
                                   "show 0 9999 x", "show 9 9 9 ")
        # NoPack ahead of NoHand and of NoSaying.
        self.check_refused_quietly(NoPack, fresh, "saw 9999 0", "word 9999 sees 0", "word 0 x", "true 9999 x", "show 0 9")
        # NoHand ahead of NoSaying.
        self.check_refused_quietly(NoHand, desk, "word 3 x", "word 0,3 ", "knows 0 24 x", "knows 3 0 sees 3", "common 0 24 x",
                                   "common 3 0 ", "true 24 x")


class TwoDesksTest(DeskCase):
    def test_two_desks_do_not_touch_each_other(self):
        one = self.told("deal 3 1 1")
        other = Desk()
        self.check_refused(NoPack, other, "saw 0 0")
        other.say("deal 3 1 1")
        other.say("word 0 holds 1 1")
        self.check_answers(one, [("saw 0 0", "0"), ("knows 0 0 holds 1 1", "not 1")])
        self.check_answers(other, [("saw 0 0", "0 yes"), ("knows 0 0 holds 1 1", "knows 0")])
        one.say("show 0 pile 0 1 2")
        self.check_answers(one, [("saw 0 0", "0 2")])
        self.check_answers(other, [("saw 0 0", "0 yes")])
        one.say("deal 5 1 1")
        self.check_answers(other, [("cards 5 0", "2"), ("saw 0 0", "0 yes")])

    def test_asking_changes_nothing(self):
        desk = self.told("deal 4 1 1 1", "word 0,2 sees 1", "show 1 pile 2 0")
        before = self.standing(desk)
        for row in ("knows 0 0 holds 1 1", "common 0,1,2 3 sees 0", "true 5 knows 1 sees 2", "cards 3 1", "saw 2 2"):
            first = desk.say(row)
            self.assertEqual(desk.say(row), first)
        self.assertEqual(self.standing(desk), before)


class ChanceTest(DeskCase):
    """Rows made by chance, right ones and wrong ones, looked at by the document's words."""

    words = ["", "0", "1", "2", "3", "5", "00", "+1", "10000", "9999", "-", "0,1", "1,0", "0,1,2", "pile", "deal", "word",
             "show", "knows", "common", "true", "cards", "saw", "sees", "holds", "not", "(sees", "x", "24"]

    def row(self, chance, cards, hands, many):
        """A row as it may be told to a table of so many cards, hands and deals."""
        def holder():
            return chance.choice([str(chance.randrange(hands)), "pile"])

        hand = chance.randrange(hands)
        deal = chance.randrange(many)
        group = ",".join(map(str, chance_hands(chance, hands))) or "-"
        text = show_saying(hands, chance_saying(chance, cards, hands, chance.randint(0, 3)))
        some = "".join([f" {card}" for card in chance_cards(chance, cards)])
        return chance.choice([f"word {group} {text}", f"show {hand} {holder()}{some}", f"knows {hand} {deal} {text}",
                              f"common {group} {deal} {text}", f"true {deal} {text}", f"cards {deal} {holder()}",
                              f"saw {hand} {deal}"])

    def spoilt(self, chance, row):
        words = row.split(" ")
        place = chance.randrange(len(words))
        change = chance.randrange(4)
        if change == 0:
            words[place] = chance.choice(self.words)
        elif change == 1:
            words.insert(place + chance.randrange(2), chance.choice(self.words))
        elif change == 2:
            words.pop(place)
        else:
            words = words[:place]
        return " ".join(words)

    def check_row(self, desk, other, row):
        refusal = other.refusal(row)
        if refusal is None:
            answer = desk.say(row)
            self.assertIs(type(answer), str)
            other.check(self, row, answer)
        else:
            self.check_refused(refusal, desk, row)
        return refusal

    def test_right_rows_and_spoilt_ones(self):
        chance = random.Random(28)
        met = []
        for cards, sizes in ((0, [0]), (1, [0, 1]), (3, [1, 1]), (4, [1, 1, 1]), (4, [2, 0]), (5, [1, 2]), (3, [0, 0, 3])) * 3:
            desk = Desk()
            other = Other()
            self.check_row(desk, other, self.spoilt(chance, self.row(chance, 3, 2, 6)))
            self.check_row(desk, other, " ".join(["deal", str(cards)] + [str(size) for size in sizes]))
            for _ in range(60):
                row = self.row(chance, other.cards, other.hands, len(other.table.deals()))
                self.assertIsNone(self.check_row(desk, other, row))
                for _ in range(3):
                    met.append(self.check_row(desk, other, self.spoilt(chance, row)))
        for refusal in (None, NoRow, NoHand, NoSaying):
            self.assertGreater(met.count(refusal), 50, refusal)

    def test_any_words(self):
        chance = random.Random(281)
        met = []
        for attempt in range(100):
            desk = Desk()
            other = Other()
            if attempt % 4 > 0:
                self.check_row(desk, other, chance.choice(["deal 3 1 1", "deal 4 1 1 1", "deal 2 0 1"]))
            for _ in range(60):
                row = " ".join(chance.choice(self.words) for _ in range(chance.randint(1, 5)))
                first = chance.choice(["deal", "word", "show", "knows", "common", "true", "cards", "saw"])
                met.append(self.check_row(desk, other, f"{first} {row}"))
        for refusal in (None, NoRow, NoPack, NoHand, NoSaying):
            self.assertGreater(met.count(refusal), 5, refusal)


if __name__ == "__main__":
    unittest.main()
