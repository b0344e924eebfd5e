"""Points 23, 24 and 25, and point 2 as far as it touches codes."""

import itertools
import random
import unittest

from knowcards.codes import by_sums, fails, is_code
from knowcards.errors import TooMany
from knowcards.packs import cards_of, deals_of
from tests.things import LARGEST, arguments, called_safely, strange_things

# Packs of at least three hands, some with a pile.
PACKS = [
    (0, [0, 0, 0]), (3, [1, 1, 1]), (3, [0, 1, 2]), (3, [3, 0, 0]), (4, [1, 1, 1]), (4, [2, 1, 1]), (4, [2, 1, 0]),
    (5, [2, 2, 1]), (5, [1, 2, 1, 0]), (5, [2, 0, 0, 1]), (5, [1, 1, 1, 1, 1]), (6, [2, 2, 1]),
]


def possible(cards, sizes, hand):
    """The hand's holdings, as they are seen in the deals."""
    return sorted({cards_of(deal, hand) for deal in deals_of(cards, sizes)})


def alone(holdings):
    return [[holding] for holding in holdings]


def chance_code(chance, holdings, lists):
    words = [[] for _ in range(lists)]
    for holding in chance.sample(holdings, len(holdings)):
        chance.choice(words).append(holding)
    return words


def first_failing(cards, sizes, words, a, b, e):
    """Point 24 word by word."""
    deals = deals_of(cards, sizes)
    numbers = range(len(deals))

    def word(deal):
        return [number for number, word in enumerate(words) if cards_of(deals[deal], a) in word][0]

    said = [word(deal) for deal in numbers]
    held = [[cards_of(deal, who) for deal in deals] for who in range(len(sizes) + 1)]
    for deal in numbers:
        for other in numbers:
            if held[b][other] == held[b][deal] and said[other] == said[deal] and held[a][other] != held[a][deal]:
                return ("friend", deal, other)
        alike = [other for other in numbers if held[e][other] == held[e][deal] and said[other] == said[deal]]
        for card in range(cards):
            if card not in held[e][deal] and len({deals[other][card] for other in alike}) == 1:
                return ("third", deal, card)
    return None


class InterfaceTest(unittest.TestCase):
    def test_arguments(self):
        self.assertEqual(arguments(is_code), ["cards", "sizes", "hand", "words"])
        self.assertEqual(arguments(fails), ["cards", "sizes", "words", "a", "b", "e"])
        self.assertEqual(arguments(by_sums), ["cards", "sizes", "hand", "m"])


class IsCodeTest(unittest.TestCase):
    def check(self, cards, sizes, hand, words, expected):
        self.assertIs(called_safely(self, is_code, cards, sizes, hand, words), expected)

    def test_a_code_by_sums(self):
        for cards, sizes in PACKS:
            for hand in range(len(sizes)):
                for m in (1, 2, 7):
                    self.check(cards, sizes, hand, by_sums(cards, sizes, hand, m), True)

    def test_each_alone_and_all_in_one_list(self):
        for cards, sizes in PACKS:
            for hand in range(len(sizes)):
                holdings = possible(cards, sizes, hand)
                self.check(cards, sizes, hand, alone(holdings), True)
                self.check(cards, sizes, hand, [holdings], True)

    def test_in_any_order_and_in_any_lists(self):
        chance = random.Random(23)
        for cards, sizes in PACKS:
            for hand in range(len(sizes)):
                for lists in (1, 2, 3, 8):
                    self.check(cards, sizes, hand, chance_code(chance, possible(cards, sizes, hand), lists), True)

    def test_empty_lists(self):
        self.check(3, [1, 1], 0, [[], [(0,), (1,)], [], [(2,)], []], True)
        self.check(3, [1, 1], 0, [[], []], False)
        self.check(3, [1, 1], 0, [[]], False)
        self.check(3, [1, 1], 0, [], False)

    def test_a_hand_of_no_cards(self):
        self.check(0, [0], 0, [[()]], True)
        self.check(3, [0, 1], 0, [[()]], True)
        self.check(3, [0, 1], 0, [[], [()], []], True)
        self.check(3, [0, 1], 0, [], False)
        self.check(3, [0, 1], 0, [[]], False)
        self.check(3, [0, 1], 0, [[()], [()]], False)
        self.check(3, [0, 1], 0, [[(), ()]], False)
        self.check(3, [0, 1], 0, [[()], [(0,)]], False)
        self.check(3, [0, 1], 1, [[(0,), (1,)], [(2,), ()]], False)

    def test_a_hand_of_all_cards(self):
        self.check(3, [3], 0, [[(0, 1, 2)]], True)
        self.check(3, [0, 3], 1, [[(0, 1, 2)], []], True)
        self.check(3, [3], 0, [[()]], False)
        self.check(3, [3], 0, [[(0, 2, 1)]], False)

    def test_twice(self):
        self.check(3, [1, 1], 0, [[(0,), (0,), (1,)], [(2,)]], False)
        self.check(3, [1, 1], 0, [[(0,), (1,)], [(0,), (2,)]], False)
        self.check(3, [1, 1], 0, [[(0,), (1,), (2,)], [(0,), (1,), (2,)]], False)
        # As many as there are, but one of them in another's place.
        self.check(3, [1, 1], 0, [[(0,), (0,)], [(1,)]], False)
        self.check(3, [1, 1], 0, [[(0,)], [(1,)], [(1,)]], False)

    def test_missing(self):
        holdings = possible(5, [2, 1], 0)
        for holding in holdings:
            self.check(5, [2, 1], 0, [[other for other in holdings if other != holding]], False)
            self.check(5, [2, 1], 0, [[], [other for other in holdings if other != holding]], False)

    def test_holdings_that_the_hand_cannot_have(self):
        holdings = possible(4, [2, 1], 0)
        for thing in ((), (0,), (0, 1, 2), (1, 0), (3, 2), (1, 1), (0, 4), (-1, 0), (0, LARGEST), (-LARGEST, 3),
                      (0, 0, 1), (0, 1, 1), (0, 1, 2, 3)):
            self.check(4, [2, 1], 0, [holdings, [thing]], False)
            self.check(4, [2, 1], 0, [holdings + [thing]], False)
            self.check(4, [2, 1], 0, [[thing] + holdings], False)
            for place in range(len(holdings)):
                self.check(4, [2, 1], 0, [holdings[:place] + [thing] + holdings[place + 1:]], False)

    def test_of_the_hand_that_is_asked(self):
        self.check(4, [2, 1], 0, alone(possible(4, [2, 1], 0)), True)
        self.check(4, [2, 1], 1, alone(possible(4, [2, 1], 0)), False)
        self.check(4, [2, 1], 1, alone(possible(4, [2, 1], 1)), True)
        self.check(4, [2, 1], 0, alone(possible(4, [2, 1], 1)), False)

    def test_packs_of_too_many_deals(self):
        holdings = list(itertools.combinations(range(12), 6))
        self.check(12, [6, 3, 3], 0, alone(holdings), True)
        self.check(12, [6, 3, 3], 0, [holdings], True)
        self.check(12, [6, 3, 3], 0, [holdings[1:]], False)
        self.check(12, [3, 3, 6], 2, [holdings], True)

    def test_things_of_other_kinds(self):
        holdings = possible(3, [1, 1], 0)
        for thing in strange_things():
            if thing != (0,):
                self.check(3, [1, 1], 0, thing, False)
                self.check(3, [1, 1], 0, [holdings, [thing]], False)
                self.check(3, [1, 1], 0, [[thing, (1,), (2,)]], False)
            if thing != []:
                self.check(3, [1, 1], 0, [holdings, thing], False)
        self.check(3, [1, 1], 0, [[(False,), (True,), (2,)]], False)
        self.check(3, [1, 1], 0, [[[0], [1], [2]]], False)
        self.check(3, [1, 1], 0, [((0,), (1,), (2,))], False)
        self.check(3, [1, 1], 0, ([(0,), (1,), (2,)],), False)


class FailsTest(unittest.TestCase):
    def check(self, cards, sizes, words, a, b, e, expected):
        told = called_safely(self, fails, cards, sizes, words, a, b, e)
        self.assertEqual(told, expected)
        self.assertIs(type(told), type(expected))
        if told is not None:
            self.assertEqual([type(part) for part in told], [str, int, int])
        return told

    def test_nothing_fails(self):
        self.check(7, [3, 3, 1], by_sums(7, [3, 3, 1], 0, 7), 0, 1, 2, None)
        self.check(7, [3, 3, 1], by_sums(7, [3, 3, 1], 1, 7), 1, 0, 2, None)

    def test_nothing_said(self):
        # One list with all: the friend learns nothing, so where a may hold this or that, he fails.
        words = [possible(3, [1, 1, 1], 0)]
        self.check(3, [1, 1, 1], words, 0, 1, 2, ("friend", 0, 5))
        self.check(3, [1, 1, 1], words, 0, 2, 1, ("friend", 0, 2))

    def test_all_said(self):
        # Each holding alone: the friend knows it, and so does the third.
        words = alone(possible(4, [2, 1, 1], 0))
        self.check(4, [2, 1, 1], words, 0, 1, 2, ("third", 0, 0))
        words = alone(possible(3, [1, 1, 1], 2))
        self.check(3, [1, 1, 1], words, 2, 1, 0, ("third", 0, 1))

    def test_both_at_one_deal(self):
        # At deal 0 the third holds the other card of the word, so that it knows what the friend does not.
        self.assertEqual([deals_of(4, [1, 1, 1])[deal] for deal in (0, 14)], [(0, 1, 2, 3), (2, 1, 0, 3)])
        self.check(4, [1, 1, 1], [[(0,), (2,)], [(1,), (3,)]], 0, 1, 2, ("friend", 0, 14))
        self.check(4, [1, 1, 1], [[(1,), (3,)], [(0,), (2,)]], 0, 1, 2, ("friend", 0, 14))

    def test_the_least_card_that_the_third_does_not_hold(self):
        self.check(3, [1, 2, 0], [[(2,)], [(0,), (1,)]], 0, 1, 2, ("third", 0, 2))
        self.check(3, [1, 2, 0], [[(0,)], [(2,), (1,)]], 0, 1, 2, ("third", 0, 0))
        self.check(3, [2, 1, 0], [[(0, 1), (0, 2)], [(1, 2)]], 0, 1, 2, ("third", 0, 0))
        self.check(3, [1, 1, 1], alone(possible(3, [1, 1, 1], 1)), 1, 2, 0, ("third", 0, 1))

    def test_the_third_ahead_at_an_earlier_deal(self):
        words = [[(0,)], [(1,), (2,), (3,)]]
        self.check(4, [1, 1, 1], words, 0, 1, 2, ("third", 0, 0))

    def test_any_codes(self):
        chance = random.Random(24)
        kinds = []
        for cards, sizes in PACKS * 8:
            a, b, e = chance.sample(range(len(sizes)), 3)
            words = chance_code(chance, possible(cards, sizes, a), chance.randint(1, 5))
            told = self.check(cards, sizes, words, a, b, e, first_failing(cards, sizes, words, a, b, e))
            kinds.append(told and told[0])
        for kind in (None, "friend", "third"):
            self.assertGreater(kinds.count(kind), 5)

    def test_codes_by_sums(self):
        for cards, sizes in PACKS + [(7, [3, 3, 1])]:
            for m in (1, 2, 3, 5, 7):
                words = by_sums(cards, sizes, 0, m)
                self.check(cards, sizes, words, 0, 2, 1, first_failing(cards, sizes, words, 0, 2, 1))

    def test_the_first_deal_is_not_always_deal_0(self):
        found = []
        chance = random.Random(241)
        for _ in range(60):
            words = by_sums(7, [3, 3, 1], 0, 7)
            shuffled = chance.sample(range(7), 7)
            words = [[tuple(sorted(shuffled[card] for card in holding)) for holding in word] for word in words]
            # Two words made one, or a holding moved to another word.
            one, other = chance.sample(range(7), 2)
            moved = chance.choice(words[one])
            words[one].remove(moved)
            words[other].append(moved)
            told = fails(7, [3, 3, 1], words, 0, 1, 2)
            if len(found) < 8:
                self.assertEqual(told, first_failing(7, [3, 3, 1], words, 0, 1, 2))
            found.append(told)
        self.assertGreater(len({told[1] for told in found if told is not None}), 3)

    def test_a_third_of_no_cards(self):
        self.check(2, [1, 1, 0], [[(0,), (1,)]], 0, 1, 2, None)
        self.check(2, [1, 1, 0], [[(0,)], [(1,)]], 0, 1, 2, ("third", 0, 0))
        self.check(0, [0, 0, 0], [[()]], 0, 1, 2, None)
        # The pile's card is told as well as any hand's.
        self.check(1, [0, 0, 0], [[()]], 0, 1, 2, ("third", 0, 0))

    def test_a_third_of_all_cards(self):
        self.check(2, [0, 0, 2], [[()]], 0, 1, 2, None)
        self.check(3, [0, 0, 2], [[()]], 0, 1, 2, ("third", 0, 2))

    def test_a_pile(self):
        # The third holds one card of four; a has one, so that b and the pile are left.
        for words in ([[(0,), (1,), (2,), (3,)]], [[(0,), (3,)], [(1,), (2,)]], alone(possible(4, [1, 1, 1], 0))):
            for a, b, e in itertools.permutations(range(3)):
                self.check(4, [1, 1, 1], words, a, b, e, first_failing(4, [1, 1, 1], words, a, b, e))

    def test_empty_lists_do_no_harm(self):
        words = by_sums(7, [3, 3, 1], 0, 7)
        spread = [part for word in words for part in ([], word)]
        self.check(7, [3, 3, 1], spread, 0, 1, 2, None)
        words = by_sums(5, [2, 2, 1], 0, 100)
        self.check(5, [2, 2, 1], words, 0, 1, 2, first_failing(5, [2, 2, 1], words, 0, 1, 2))

    def test_too_many(self):
        for cards, sizes in ((12, [6, 3, 3]), (12, [2, 2, 2]), (10, [2, 2, 2])):
            with self.assertRaises(TooMany) as taken:
                called_safely(self, fails, cards, sizes, by_sums(cards, sizes, 0, 7), 0, 1, 2)
            self.assertIs(type(taken.exception), TooMany)

    def test_nearly_two_thousand_deals(self):
        # 1,980 deals: all of a's cards in one word, and each in one of its own.
        self.check(12, [1, 3, 0], [possible(12, [1, 3, 0], 0)], 0, 1, 2, ("friend", 0, 824))
        self.check(12, [1, 3, 0], alone(possible(12, [1, 3, 0], 0)), 0, 1, 2, ("third", 0, 0))
        self.check(12, [0, 3, 1], [[()]], 0, 1, 2, None)


class BySumsTest(unittest.TestCase):
    def check(self, cards, sizes, hand, m):
        told = called_safely(self, by_sums, cards, sizes, hand, m)
        self.assertIs(type(told), list)
        self.assertEqual([type(word) for word in told], [list] * m)
        expected = [[] for _ in range(m)]
        for holding in itertools.combinations(range(cards), sizes[hand]):
            expected[sum(holding) % m].append(holding)
        self.assertEqual(told, expected)
        self.assertEqual(told, [sorted(word) for word in told])
        self.assertIs(is_code(cards, sizes, hand, told), True)

    def test_by_hand(self):
        self.assertEqual(by_sums(4, [2, 1], 0, 3), [[(0, 3), (1, 2)], [(0, 1), (1, 3)], [(0, 2), (2, 3)]])
        self.assertEqual(by_sums(4, [2, 1], 1, 3), [[(0,), (3,)], [(1,)], [(2,)]])

    def test_from_one_to_a_hundred(self):
        for cards, sizes in PACKS:
            for hand in range(len(sizes)):
                for m in {1, 2, max(cards, 1), 100}:
                    self.check(cards, sizes, hand, m)
        for m in range(1, 101):
            self.check(7, [3, 3, 1], 0, m)

    def test_lists_without_holdings(self):
        self.assertEqual(by_sums(2, [1], 0, 4), [[(0,)], [(1,)], [], []])
        self.assertEqual(by_sums(3, [2], 0, 5), [[], [(0, 1)], [(0, 2)], [(1, 2)], []])
        self.assertEqual(len(by_sums(12, [6], 0, 100)), 100)

    def test_a_hand_of_no_cards(self):
        self.assertEqual(by_sums(0, [0], 0, 1), [[()]])
        self.assertEqual(by_sums(5, [0, 2], 0, 3), [[()], [], []])
        self.assertEqual(by_sums(5, [0, 2], 0, 100), [[()]] + [[]] * 99)

    def test_packs_of_too_many_deals(self):
        self.check(12, [6, 3, 3], 0, 7)
        self.check(12, [2, 2, 2, 2, 2], 4, 12)
        self.check(12, [12], 0, 100)

    def test_somewhat_beyond(self):
        self.check(5, [2, 1], 0, 101)
        self.check(5, [2, 1], 0, 1000)
        self.assertEqual(by_sums(5, [2, 1], 0, 0), [])

    def test_told_lists_are_the_askers_own(self):
        told = by_sums(5, [0, 2], 0, 3)
        told[1].append((9,))
        self.assertEqual(told, [[()], [(9,)], []])
        told.clear()
        self.assertEqual(by_sums(5, [0, 2], 0, 3), [[()], [], []])


if __name__ == "__main__":
    unittest.main()
