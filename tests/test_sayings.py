"""Point 6, and point 2 as far as it touches sayings."""

import unittest

from knowcards.sayings import is_saying, of_cards_alone, words_in
from tests.things import (CARDS, HANDS, HOLDS, LARGEST, PILE, SEES, both, built_sayings, called_safely, chained,
                          deny, in_list, in_tuple, nested, not_whole, strange_things)

class SayingCase(unittest.TestCase):
    def check(self, expected, *sayings):
        for saying in sayings:
            self.assertIs(called_safely(self, is_saying, CARDS, HANDS, saying), expected, saying)

    def check_wrong_everywhere(self, *things):
        """What is no saying is none within any other form either."""
        for thing in things:
            self.check(False, thing, ("not", thing), ("and", thing, HOLDS), ("and", HOLDS, thing),
                       ("or", thing, HOLDS), ("or", HOLDS, thing), ("knows", 0, thing),
                       ("all", (0,), thing), ("common", (), thing), ("not", ("knows", 0, thing)))


class IsSayingTest(SayingCase):
    def test_each_form_and_what_is_built_of_them(self):
        for saying, words, _ in built_sayings():
            self.check(words <= 30, saying)

    def test_another_word(self):
        self.check_wrong_everywhere(
            ("hold", 0, 1), ("Holds", 0, 1), ("holds ", 0, 1), ("", 0, 1), ("if", HOLDS, HOLDS), ("xor", HOLDS, HOLDS),
            ("NOT", HOLDS), ("sees ", 0), ("know", 0, HOLDS), ("any", (0,), HOLDS), ("pile", 0), ("saying", HOLDS),
            ("holder", 0, 1), ("card", 0), ("hand", 0), ("hands", (0,)))

    def test_too_few_parts(self):
        self.check_wrong_everywhere(
            (), ("holds",), ("holds", 0), ("not",), ("and",), ("and", HOLDS), ("or",), ("or", HOLDS), ("knows",),
            ("knows", 0), ("knows", HOLDS), ("all",), ("all", (0,)), ("all", HOLDS), ("common",), ("common", ()),
            ("common", HOLDS), ("sees",))

    def test_too_many_parts(self):
        self.check_wrong_everywhere(
            ("holds", 0, 1, 2), ("holds", 0, 1, HOLDS), ("holds", 0, 1, None), ("not", HOLDS, HOLDS),
            ("and", HOLDS, HOLDS, HOLDS), ("or", HOLDS, HOLDS, HOLDS), ("knows", 0, HOLDS, HOLDS), ("knows", 0, 1, HOLDS),
            ("all", (0,), HOLDS, HOLDS), ("common", (0,), HOLDS, 0), ("sees", 0, 1), ("sees", 0, HOLDS), ("sees", 0, ()))

    def test_parts_in_another_order(self):
        self.check_wrong_everywhere(
            (0, "holds", 1), (0, 1, "holds"), (HOLDS, "and", HOLDS), (HOLDS, "not"), ("knows", HOLDS, 0),
            ("all", HOLDS, (0,)), ("common", HOLDS, ()), (0, "sees"), (HOLDS,), (HOLDS, HOLDS), ("not", "holds", 0, 1))

    def test_a_list_in_the_place_of_a_tuple(self):
        self.check_wrong_everywhere(
            ["holds", 0, 1], ["not", HOLDS], ["and", HOLDS, HOLDS], ["or", HOLDS, HOLDS], ["knows", 0, HOLDS],
            ["all", (0,), HOLDS], ["common", (0,), HOLDS], ["sees", 0], ("all", [0], HOLDS), ("all", [], HOLDS),
            ("common", [0, 1], HOLDS), ("common", [], HOLDS))

    def test_holders(self):
        for who in range(-3, 8):
            self.check(0 <= who <= PILE, ("holds", who, 0))
        self.check_wrong_everywhere(("holds", LARGEST, 0), ("holds", -LARGEST, 0), ("holds", "pile", 0), ("holds", (0,), 0))

    def test_cards(self):
        for card in range(-3, 8):
            self.check(0 <= card < CARDS, ("holds", 0, card), ("holds", PILE, card))
        self.check_wrong_everywhere(("holds", 0, LARGEST), ("holds", 0, -LARGEST), ("holds", 0, (1,)))

    def test_hands(self):
        for hand in range(-3, 8):
            self.check(0 <= hand < HANDS, ("knows", hand, HOLDS), ("sees", hand), ("all", (hand,), HOLDS),
                       ("common", (hand,), HOLDS))
        self.check_wrong_everywhere(
            ("knows", LARGEST, HOLDS), ("sees", LARGEST), ("sees", -LARGEST), ("all", (LARGEST,), HOLDS),
            ("common", (0, LARGEST), HOLDS), ("all", (0, 1, 2, PILE), HOLDS), ("common", (-1, 0), HOLDS))

    def test_tuples_of_hands(self):
        for word in ("all", "common"):
            for some in ((), (0,), (2,), (0, 1), (0, 2), (1, 2), (0, 1, 2)):
                self.check(True, (word, some, HOLDS))
            for some in ((1, 0), (2, 1), (0, 2, 1), (2, 0, 1), (0, 0), (0, 1, 1), (2, 2), (0, 1, 2, 2), (0, 1, 0),
                         (True,), (0, True), (False,), ("0",), (None,), ((0,),), ([0],), ({},), (0,) * 1990,
                         0, None, True, "0", "", {}, {0: 0}, [0], [], [0, 1], "01"):
                self.check_wrong_everywhere((word, some, HOLDS))

    def test_no_number_in_the_place_of_a_number(self):
        for thing in not_whole():
            self.check(False, ("holds", thing, 1), ("holds", 0, thing), ("knows", thing, HOLDS), ("sees", thing),
                       ("all", (thing,), HOLDS), ("common", (thing, 2), HOLDS), ("common", (0, thing), HOLDS))

    def test_no_tuple_of_hands_in_their_place(self):
        for thing in strange_things():
            if thing not in ((), (0,)):
                self.check(False, ("all", thing, HOLDS), ("common", thing, HOLDS))

    def test_things_of_any_kind(self):
        self.check_wrong_everywhere(*strange_things())
        self.check_wrong_everywhere("holds", "not", "holds 0 1", {"holds": (0, 1)}, {"not": HOLDS}, [HOLDS])

    def test_any_kind_in_the_place_of_the_word(self):
        for thing in strange_things():
            self.check(False, (thing,), (thing, 0), (thing, 0, 1), (thing, HOLDS), (thing, HOLDS, HOLDS))

    def test_deeply_nested(self):
        self.check(False, nested(in_list, HOLDS, 38), nested(in_tuple, HOLDS, 38), nested(deny, [], 39),
                   nested(deny, HOLDS, 39), nested(lambda thing: ["not", thing], HOLDS, 39),
                   nested(lambda thing: ("all", thing, HOLDS), (), 40), nested(lambda thing: ("holds", thing, 0), 0, 40))


class ForOtherCountsTest(unittest.TestCase):
    def test_of_no_cards_nothing_is_held(self):
        self.assertIs(is_saying(0, 2, ("holds", 0, 0)), False)
        self.assertIs(is_saying(0, 2, ("holds", 2, 0)), False)
        self.assertIs(is_saying(0, 2, ("sees", 1)), True)
        self.assertIs(is_saying(0, 2, ("all", (0, 1), ("sees", 0))), True)

    def test_the_largest_counts(self):
        self.assertIs(is_saying(12, 5, ("common", (0, 1, 2, 3, 4), ("holds", 5, 11))), True)
        self.assertIs(is_saying(12, 5, ("holds", 6, 11)), False)
        self.assertIs(is_saying(12, 5, ("holds", 5, 12)), False)
        self.assertIs(is_saying(12, 5, ("sees", 5)), False)

    def test_each_count(self):
        for cards in range(13):
            for hands in range(1, 6):
                for number in range(14):
                    self.assertIs(is_saying(cards, hands, ("holds", hands, number)), number < cards)
                    self.assertIs(is_saying(cards, hands, ("holds", number, 0)), number <= hands and cards > 0)
                    self.assertIs(is_saying(cards, hands, ("sees", number)), number < hands)
                    self.assertIs(is_saying(cards, hands, ("knows", number, ("sees", 0))), number < hands)
                    self.assertIs(is_saying(cards, hands, ("all", (number,), ("sees", 0))), number < hands)

    def test_counts_that_are_no_whole_numbers(self):
        for thing in not_whole():
            self.assertIs(is_saying(thing, 3, SEES), False)
            self.assertIs(is_saying(3, thing, ("holds", 0, 1)), False)


class ThirtyWordsTest(SayingCase):
    def test_a_row_of_words(self):
        self.check(True, nested(deny, HOLDS, 28), nested(deny, HOLDS, 29), nested(deny, SEES, 29))
        self.check(False, nested(deny, HOLDS, 30), nested(deny, HOLDS, 31), nested(deny, SEES, 30))

    def test_words_side_by_side(self):
        for word in ("and", "or"):
            self.assertEqual(words_in(chained(word, 15)), 29)
            self.check(True, chained(word, 15), ("not", chained(word, 15)), ("knows", 0, chained(word, 15)),
                       ("all", (0, 1), chained(word, 15)), ("common", (), chained(word, 15)))
            self.check(False, chained(word, 16), ("not", ("not", chained(word, 15))),
                       ("knows", 0, ("all", (), chained(word, 15))))

    def test_a_word_counts_as_often_as_it_stands_there(self):
        self.check(True, nested(both, HOLDS, 3), ("and", nested(both, HOLDS, 3), nested(deny, HOLDS, 13)))
        self.check(False, nested(both, HOLDS, 4), ("and", nested(both, HOLDS, 3), nested(deny, HOLDS, 14)))
        self.check(False, ("or", nested(both, HOLDS, 3), nested(both, HOLDS, 3)))

    def test_one_that_doubles_at_every_depth_is_refused_soon(self):
        self.assertIs(is_saying(CARDS, HANDS, nested(both, HOLDS, 39)), False)

    def test_the_hands_are_no_words(self):
        self.check(True, nested(lambda inner: ("common", (0, 1, 2), inner), HOLDS, 29))
        self.check(False, nested(lambda inner: ("common", (), inner), HOLDS, 30))


class WordsInTest(unittest.TestCase):
    def test_each_form_and_what_is_built_of_them(self):
        for saying, words, _ in built_sayings():
            told = called_safely(self, words_in, saying)
            self.assertIs(type(told), int)
            self.assertEqual(told, words, saying)

    def test_up_to_thirty_and_beyond(self):
        for times in range(40):
            self.assertEqual(words_in(nested(deny, SEES, times)), times + 1)
        self.assertEqual(words_in(nested(both, HOLDS, 4)), 31)


class OfCardsAloneTest(unittest.TestCase):
    def test_each_form_and_what_is_built_of_them(self):
        for saying, _, alone in built_sayings():
            self.assertIs(called_safely(self, of_cards_alone, saying), alone, saying)

    def test_one_other_word_deep_within(self):
        self.assertIs(of_cards_alone(nested(deny, HOLDS, 29)), True)
        self.assertIs(of_cards_alone(chained("or", 15)), True)
        for other in (SEES, ("knows", 0, HOLDS), ("all", (), HOLDS), ("common", (), HOLDS)):
            self.assertIs(of_cards_alone(nested(deny, other, 27)), False)
            self.assertIs(of_cards_alone(("and", ("or", HOLDS, ("not", other)), HOLDS)), False)


if __name__ == "__main__":
    unittest.main()
