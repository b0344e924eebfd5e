"""Point 7, and point 2 as far as it touches the texts of sayings."""

import re
import unittest

from knowcards.errors import CardError, NoSaying
from knowcards.sayings import is_saying, words_in
from knowcards.texts import read_saying, show_saying
from tests.things import (CARDS, HANDS, HOLDS, LARGEST, PILE, SEES, arguments, both, built_sayings, called_safely,
                          chained, deny, in_list, in_tuple, nested, strange_things)

# For four cards and three hands.
WRITTEN = [
    (("holds", 0, 1), "holds 0 1"),
    (("holds", 2, 3), "holds 2 3"),
    (("holds", PILE, 0), "holds pile 0"),
    (("not", ("holds", 0, 1)), "not holds 0 1"),
    (("not", ("not", ("sees", 2))), "not not sees 2"),
    (("and", ("holds", 0, 1), ("sees", 2)), "(holds 0 1 and sees 2)"),
    (("or", ("holds", PILE, 3), ("holds", 1, 0)), "(holds pile 3 or holds 1 0)"),
    (("not", ("or", ("sees", 0), ("sees", 1))), "not (sees 0 or sees 1)"),
    (("or", ("not", ("sees", 0)), ("sees", 1)), "(not sees 0 or sees 1)"),
    (("and", ("and", ("sees", 0), ("sees", 1)), ("sees", 2)), "((sees 0 and sees 1) and sees 2)"),
    (("and", ("sees", 0), ("and", ("sees", 1), ("sees", 2))), "(sees 0 and (sees 1 and sees 2))"),
    (("or", ("and", ("sees", 0), ("sees", 1)), ("or", ("sees", 1), ("sees", 2))),
     "((sees 0 and sees 1) or (sees 1 or sees 2))"),
    (("knows", 1, ("holds", 0, 1)), "knows 1 holds 0 1"),
    (("knows", 0, ("not", ("knows", 2, ("holds", PILE, 2)))), "knows 0 not knows 2 holds pile 2"),
    (("and", ("knows", 1, ("sees", 0)), ("sees", 1)), "(knows 1 sees 0 and sees 1)"),
    (("knows", 1, ("and", ("sees", 0), ("sees", 1))), "knows 1 (sees 0 and sees 1)"),
    (("all", (), ("sees", 0)), "all - sees 0"),
    (("all", (2,), ("sees", 0)), "all 2 sees 0"),
    (("all", (0, 2), ("sees", 0)), "all 0,2 sees 0"),
    (("common", (), ("holds", 1, 1)), "common - holds 1 1"),
    (("common", (0, 1, 2), ("or", ("sees", 0), ("not", ("sees", 0)))), "common 0,1,2 (sees 0 or not sees 0)"),
    (("all", (0,), ("common", (1, 2), ("all", (), ("sees", 1)))), "all 0 common 1,2 all - sees 1"),
    (("sees", 0), "sees 0"),
    (("sees", 2), "sees 2"),
]

NUMBER = "(0|[1-9][0-9]*)"


class Grammar:
    """Point 7 spelled out sign by sign, by another way than the program's: it reads from the front."""

    def __init__(self, cards, hands, text):
        self.cards, self.hands, self.text, self.at = cards, hands, text, 0

    def whole(self):
        """The saying, or None."""
        try:
            saying = self.saying()
        except LookupError:
            return None
        return saying if self.at == len(self.text) and words_in(saying) <= 30 else None

    def take(self, pattern):
        found = re.compile(pattern).match(self.text, self.at)
        if found is None:
            raise LookupError
        self.at = found.end()
        return found.group()

    def stands(self, sign):
        return self.text.startswith(sign, self.at)

    def number(self, bound):
        number = int(self.take(NUMBER))
        if number >= bound:
            raise LookupError
        return number

    def some(self):
        if self.stands("-"):
            self.take("-")
            return ()
        some = (self.number(self.hands),)
        while self.stands(","):
            self.take(",")
            some += (self.number(self.hands),)
        if list(some) != sorted(set(some)):
            raise LookupError
        return some

    def holder(self):
        if self.stands("pile"):
            self.take("pile")
            return self.hands
        return self.number(self.hands)

    def in_brackets(self):
        one = self.saying()
        word = self.take(" and | or ").strip()
        other = self.saying()
        self.take("[)]")
        return (word, one, other)

    def saying(self):
        word = self.take("[(]|not |(holds|knows|all|common|sees) ").strip()
        if word == "(":
            return self.in_brackets()
        if word == "not":
            return (word, self.saying())
        if word == "holds":
            who = self.holder()
            self.take(" ")
            return (word, who, self.number(self.cards))
        if word == "sees":
            return (word, self.number(self.hands))
        first = self.number(self.hands) if word == "knows" else self.some()
        self.take(" ")
        return (word, first, self.saying())


def altered(text, signs):
    """Every text that lies one sign away: one left out, put in, or put in another's place; two next ones swapped."""
    found = set()
    for at in range(len(text) + 1):
        found.add(text[:at] + text[at + 1:])
        found.add(text[:at] + text[at:at + 2][::-1] + text[at + 2:])
        for sign in signs:
            found.add(text[:at] + sign + text[at:])
            found.add(text[:at] + sign + text[at + 1:])
    return sorted(found)


class TextCase(unittest.TestCase):
    def check_read(self, text, expected, cards=CARDS, hands=HANDS):
        told = called_safely(self, read_saying, cards, hands, text)
        self.assertEqual(told, expected, text)
        self.check_kinds(told)

    def check_kinds(self, part):
        """A saying is tuples, texts and whole numbers, which are no truths, all the way down."""
        self.assertIn(type(part), (tuple, str, int))
        if type(part) is tuple:
            for inner in part:
                self.check_kinds(inner)

    def check_refused(self, *texts, cards=CARDS, hands=HANDS):
        for text in texts:
            with self.assertRaises(NoSaying, msg=text) as taken:
                called_safely(self, read_saying, cards, hands, text)
            self.assertIs(type(taken.exception), NoSaying)
            self.assertIsInstance(taken.exception, CardError)

    def check_refused_everywhere(self, *texts):
        """What is no saying's text is none within another one's either."""
        for text in texts:
            self.check_refused(text, "not " + text, "(" + text + " and sees 0)", "(sees 0 or " + text + ")",
                               "knows 0 " + text, "all 0,1 " + text, "common - " + text)


class InterfaceTest(unittest.TestCase):
    def test_arguments(self):
        self.assertEqual(arguments(show_saying), ["hands", "S"])
        self.assertEqual(arguments(read_saying), ["cards", "hands", "text"])


class ShowTest(TextCase):
    def test_each_form(self):
        for saying, text in WRITTEN:
            self.assertEqual(called_safely(self, show_saying, HANDS, saying), text)
            self.assertIs(type(show_saying(HANDS, saying)), str)

    def test_what_is_built_of_them_is_read_again(self):
        for saying, words, _ in built_sayings():
            text = show_saying(HANDS, saying)
            self.assertNotIn("  ", text)
            if words <= 30:
                self.assertEqual(Grammar(CARDS, HANDS, text).whole(), saying)
                self.check_read(text, saying)
            else:
                self.check_refused(text)

    def test_unlike_sayings_have_unlike_texts(self):
        every = {saying for saying, _, _ in built_sayings()}
        self.assertEqual(len({show_saying(HANDS, saying) for saying in every}), len(every))

    def test_the_pile_hangs_on_the_count_of_hands(self):
        for hands in range(1, 6):
            for who in range(hands):
                self.assertEqual(show_saying(hands, ("holds", who, hands)), f"holds {who} {hands}")
            self.assertEqual(show_saying(hands, ("holds", hands, hands)), f"holds pile {hands}")

    def test_numbers_of_two_figures(self):
        self.assertEqual(show_saying(5, ("holds", 5, 10)), "holds pile 10")
        self.assertEqual(show_saying(5, ("common", (0, 1, 2, 3, 4), ("holds", 4, 11))), "common 0,1,2,3,4 holds 4 11")


class ReadTest(TextCase):
    def test_each_form(self):
        for saying, text in WRITTEN:
            self.check_read(text, saying)

    def test_for_each_count(self):
        for cards in range(13):
            for hands in range(1, 6):
                for number in range(14):
                    self.check_for(cards, hands, f"holds pile {number}", ("holds", hands, number))
                    self.check_for(cards, hands, f"holds 0 {number}", ("holds", 0, number))
                    self.check_for(cards, hands, f"sees {number}", ("sees", number))
                    self.check_for(cards, hands, f"knows {number} sees 0", ("knows", number, ("sees", 0)))
                    self.check_for(cards, hands, f"all {number} sees 0", ("all", (number,), ("sees", 0)))
                    self.check_for(cards, hands, f"common 0,{number} sees 0", ("common", (0, number), ("sees", 0)))
                    if number != hands:
                        self.check_for(cards, hands, f"holds {number} 0", ("holds", number, 0))

    def check_for(self, cards, hands, text, saying):
        if is_saying(cards, hands, saying):
            self.check_read(text, saying, cards, hands)
        else:
            self.check_refused(text, cards=cards, hands=hands)

    def test_counts_somewhat_beyond(self):
        self.check_read("holds pile 14", ("holds", 11, 14), 15, 11)
        self.check_read("common 0,9,10 sees 10", ("common", (0, 9, 10), ("sees", 10)), 15, 11)
        self.check_refused("holds 11 14", "holds pile 15", "sees 11", "sees 010", cards=15, hands=11)


class ThirtyWordsTest(TextCase):
    def test_thirty_are_read_and_thirty_one_refused(self):
        for wrap in (deny, lambda inner: ("knows", 2, inner), lambda inner: ("all", (0, 1, 2), inner),
                     lambda inner: ("common", (), inner)):
            for core in (HOLDS, SEES):
                for times in range(27, 30):
                    saying = nested(wrap, core, times)
                    self.check_read(show_saying(HANDS, saying), saying)
                for times in range(30, 33):
                    self.check_refused(show_saying(HANDS, nested(wrap, core, times)))

    def test_side_by_side(self):
        for word in ("and", "or"):
            saying = deny(chained(word, 15))
            self.assertEqual(words_in(saying), 30)
            self.check_read(show_saying(HANDS, saying), saying)
            self.check_refused(show_saying(HANDS, deny(saying)), show_saying(HANDS, chained(word, 16)))

    def test_to_the_left_and_to_the_right(self):
        left = nested(lambda inner: ("and", inner, SEES), HOLDS, 14)
        self.check_read("(" * 14 + "holds 0 1" + " and sees 2)" * 14, left)
        self.check_refused("(" * 15 + "holds 0 1" + " and sees 2)" * 15)
        right = nested(lambda inner: ("or", SEES, inner), HOLDS, 14)
        self.check_read("(sees 2 or " * 14 + "holds 0 1" + ")" * 14, right)
        self.check_refused("(sees 2 or " * 15 + "holds 0 1" + ")" * 15)

    def test_a_word_counts_as_often_as_it_stands_there(self):
        self.check_refused(show_saying(HANDS, nested(both, HOLDS, 4)))

    def test_the_longest_texts(self):
        self.check_refused(
            "not " * 998 + "sees 0", "(" * 4000, ")" * 4000, "((" + "sees 0 and " * 350 + "sees 0))", " " * 4000,
            "," * 4000, "-" * 4000, "0" * 4000, "9" * 4000, "(sees 0 and " * 300 + "sees 0" + ")" * 300,
            "all " + "0," * 1990 + "0 sees 0", "common 0" + ",1" * 1990 + " sees 0", "sees " + "0" * 3990,
            "sees " + "1" * 3990, "holds 0 " + "9" * 3990, "knows " * 600, "not(" * 1000, "holds " * 660, "~" * 4000)


class RefusedTextTest(TextCase):
    def test_an_empty_text_and_blanks_alone(self):
        self.check_refused_everywhere("", " ", "  ")

    def test_two_blanks(self):
        for text in [text for _, text in WRITTEN]:
            for at in [at for at, sign in enumerate(text) if sign == " "]:
                self.check_refused(text[:at] + " " + text[at:])

    def test_a_blank_at_an_end(self):
        for text in [text for _, text in WRITTEN]:
            self.check_refused(" " + text, text + " ", " " + text + " ", "  " + text)

    def test_no_blank_where_one_must_be(self):
        for text in [text for _, text in WRITTEN]:
            for at in [at for at, sign in enumerate(text) if sign == " "]:
                self.check_refused(text[:at] + text[at + 1:])

    def test_a_blank_within_the_rims_of_brackets(self):
        self.check_refused_everywhere("( sees 0 and sees 1)", "(sees 0 and sees 1 )", "( sees 0 and sees 1 )",
                                      "(sees 0 and ( sees 1 or sees 2))", "((sees 0 and sees 1 ) or sees 2)",
                                      "( (sees 0 and sees 1) or sees 2)", "(sees 0 and (sees 1 or sees 2) )")

    def test_other_blanks(self):
        self.check_refused_everywhere("sees\t0", "sees\n0", "sees 0\n", "\nsees 0", "sees \t0", "sees 0\t", "not\tsees 0")

    def test_a_nought_ahead_of_a_number(self):
        self.check_refused_everywhere(
            "holds 00 1", "holds 01 1", "holds 0 01", "holds 0 00", "sees 00", "sees 02", "sees 000", "knows 01 sees 0",
            "all 00 sees 0", "all 0,01 sees 0", "common 00,1 sees 0", "common 0,1,02 sees 0", "holds pile 03")

    def test_other_signs_than_figures(self):
        self.check_refused_everywhere(
            "sees +1", "sees -1", "sees -0", "sees 1.0", "sees 1e0", "sees 0x1", "sees 1_0", "sees _1", "sees one", "sees a",
            "sees '1'", "sees 1.", "sees [1]", "sees (1)", "sees 1,", "sees ,1", "sees 0,1", "sees -", "sees None",
            "sees True", "sees False", "holds -1 0", "holds 0 -1", "holds +0 1", "holds 0 +1", "holds x 1", "holds 0 x",
            "holds - 1", "holds 0 -", "holds 0, 1", "knows -1 sees 0", "knows +1 sees 0", "knows - sees 0",
            "knows 0,1 sees 0", "all +1 sees 0", "all 0,-1 sees 0", "common -1 sees 0", "common 0,+1 sees 0",
            "sees \u0661", "sees \u00b2", "sees \uff11", "holds \u0660 1")

    def test_numbers_of_many_figures(self):
        for number in (10, 99, 1000, 12345, 10 ** 20, LARGEST):
            self.check_refused_everywhere(
                f"sees {number}", f"holds {number} 0", f"holds 0 {number}", f"holds pile {number}", f"knows {number} sees 0",
                f"all {number} sees 0", f"all 0,{number} sees 0", f"common {number} sees 0")

    def test_another_word(self):
        self.check_refused_everywhere(
            "hold 0 1", "Holds 0 1", "HOLDS 0 1", "has 0 1", "see 0", "sees0", "Sees 0", "know 0 sees 0", "any 0 sees 0",
            "xor", "pile", "-", "0", "0 1", "holder 0 1", "saying", "hand 0", "nots sees 0", "Not sees 0", "commons 0 sees 0",
            "(sees 0 xor sees 1)", "(sees 0 And sees 1)", "(sees 0 not sees 1)", "(sees 0 holds sees 1)",
            "(sees 0 knows sees 1)", "(sees 0 all sees 1)", "(sees 0 sees 1)", "(sees 0 , sees 1)", "(sees 0  sees 1)",
            "(sees 0 pile sees 1)", "(sees 0 0 sees 1)", "(sees 0 ) sees 1)", "(sees 0 (sees 0 and sees 1) sees 1)")

    def test_words_in_another_order(self):
        self.check_refused_everywhere(
            "0 holds 1", "0 1 holds", "0 sees", "sees 0 not", "and sees 0 sees 1", "or sees 0 sees 1", "and (sees 0 sees 1)",
            "(and sees 0 sees 1)", "(sees 0 sees 1 and)", "(sees 0 sees 1) and", "sees 0 knows 1", "knows sees 0 1",
            "all sees 0 -", "common sees 0 0,1", "holds 1 pile", ")sees 0 and sees 1(", "sees not 0", "holds not 0 1",
            "not and sees 0 sees 1", "knows not 0 sees 0")

    def test_too_few_words(self):
        self.check_refused_everywhere(
            "holds", "holds 0", "holds pile", "not", "not not", "sees", "knows", "knows 0", "knows sees 0", "all", "all -",
            "all 0,1", "all sees 0", "common", "common -", "common 0", "common sees 0", "and", "or", "(sees 0 and)",
            "(and sees 0)", "(sees 0 or )", "( or sees 0)", "(and)", "(or)", "()", "( and )", "( )")

    def test_brackets_too_few(self):
        self.check_refused_everywhere(
            "sees 0 and sees 1", "sees 0 or sees 1", "(sees 0 and sees 1", "sees 0 and sees 1)", "(", ")", ")(",
            "(sees 0 and sees 1 or sees 2)", "(sees 0 and sees 1 and sees 2)", "((sees 0 and sees 1) or sees 2",
            "(sees 0 and sees 1) or sees 2", "(sees 0 and (sees 1 or sees 2)", "(sees 0 and sees 1 or sees 2))")

    def test_brackets_too_many(self):
        self.check_refused_everywhere(
            "((sees 0 and sees 1))", "((sees 0 and sees 1)", "(sees 0 and sees 1))", "(((sees 0 or sees 1)))",
            "()sees 0", "sees 0()", "()(sees 0 and sees 1)", "(sees 0 and sees 1)()")

    def test_brackets_around_what_takes_none(self):
        self.check_refused_everywhere(
            "(sees 0)", "(holds 0 1)", "(not sees 0)", "not (sees 0)", "(knows 0 sees 0)", "knows 0 (sees 0)",
            "(all - sees 0)", "all (-) sees 0", "all (0,1) sees 0", "all () sees 0", "(common 0 sees 0)", "holds (0) 1",
            "holds (pile) 1", "holds 0 (1)", "holds (0 1)", "((sees 0) and sees 1)", "(sees 0 and (sees 1))",
            "(sees 0) and (sees 1)", "(sees 0 (and) sees 1)", "(not) sees 0", "[sees 0 and sees 1]", "{sees 0 or sees 1}")

    def test_no_hand_holder_or_card_for_these_counts(self):
        self.check_refused_everywhere(
            "holds 3 0", "holds 4 0", "holds 5 0", "holds 0 4", "holds 0 5", "holds pile 4", "sees 3", "sees 4",
            "knows 3 sees 0", "all 3 sees 0", "all 0,1,2,3 sees 0", "common 3 sees 0", "common 0,3 sees 0")
        self.check_refused("holds 2 0", "sees 2", "knows 2 sees 0", hands=2)
        self.check_refused("holds 0 0", "holds pile 0", cards=0)

    def test_the_piles_number_is_not_written(self):
        for hands in range(1, 6):
            for card in range(6):
                self.check_read(f"holds pile {card}", ("holds", hands, card), 6, hands)
                self.check_refused(f"holds {hands} {card}", f"not holds {hands} {card}", cards=6, hands=hands)

    def test_the_pile_where_a_hand_or_a_card_must_stand(self):
        self.check_refused_everywhere(
            "sees pile", "knows pile sees 0", "all pile sees 0", "common pile sees 0", "all 0,pile sees 0", "all pile,0 sees 0",
            "common 0,1,2,pile sees 0", "holds 0 pile", "holds pile pile", "holds Pile 0", "holds PILE 0", "holds pil 0",
            "holds piles 0", "holds 0,pile 0")

    def test_hands_that_do_not_rise(self):
        for word in ("all", "common"):
            for some in ("1,0", "2,1", "0,2,1", "2,1,0", "1,0,2", "0,0", "1,1", "0,1,1", "0,0,1", "0,1,0", "0,1,2,2"):
                self.check_refused_everywhere(f"{word} {some} sees 0")

    def test_commas_and_the_sign_for_none(self):
        for word in ("all", "common"):
            for some in (",", "0,", ",0", "0,1,", ",0,1", "0,,1", "0, 1", "0 ,1", "0 , 1", "0 1", "0;1", "0.1", "--", "-,",
                         ",-", "0,-", "-,0", "-0", "0-", "- -", "()", "", "(0,1)", "[0,1]", "0,1.", ",,"):
                self.check_refused_everywhere(f"{word} {some} sees 0")

    def test_something_behind_a_whole_saying(self):
        for text in [text for _, text in WRITTEN]:
            self.check_refused(text + " 0", text + " sees 0", text + " " + text, text + text, text + ")", text + " and",
                               text + " not", text + ",", text + ".", text + "(", text + " (sees 0 or sees 1)", text + "0x",
                               text + " -", text + " pile", text + " ()", text + " )")

    def test_something_ahead_of_a_whole_saying(self):
        for text in [text for _, text in WRITTEN]:
            self.check_refused("0 " + text, "sees 0 " + text, "(" + text, ")" + text, "and " + text, "- " + text,
                               ", " + text, "holds 0 1 " + text, "() " + text)

    def test_whatever_lies_one_sign_away(self):
        for _, text in WRITTEN:
            for other in altered(text, " 012349-,()aeinop"):
                self.check_as_told(other)

    def check_as_told(self, text):
        expected = Grammar(CARDS, HANDS, text).whole()
        if expected is None:
            self.check_refused(text)
        else:
            self.check_read(text, expected)

    def test_words_left_out_doubled_or_swapped(self):
        for _, text in WRITTEN:
            words = re.findall("[()]|[^ ()]+| ", text)
            for at in range(len(words)):
                self.check_as_told("".join(words[:at] + words[at + 1:]))
                self.check_as_told("".join(words[:at] + words[at:at + 1] + words[at:]))
                for other in range(at):
                    swapped = words[:other] + [words[at]] + words[other + 1:at] + [words[other]] + words[at + 1:]
                    self.check_as_told("".join(swapped))


class NoTextTest(TextCase):
    def test_things_of_any_kind(self):
        for thing in strange_things():
            if thing != "holds 0 0":
                self.check_refused(thing)

    def test_sayings_and_what_holds_a_text(self):
        for saying, text in WRITTEN:
            self.check_refused(saying, list(saying), [text], (text,), {text: text}, {"text": saying}, text.split(" "),
                               tuple(text), list(text), nested(in_list, text, 39), nested(in_tuple, text, 39))


if __name__ == "__main__":
    unittest.main()
