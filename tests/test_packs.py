"""Points 4 and 5, and point 2 as far as it touches packs and deals."""

import itertools
import math
import unittest

from knowcards.errors import NoPack, TooMany
from knowcards.packs import cards_of, deals_of, how_many, is_pack
from tests.things import LARGEST, called_safely, not_whole, strange_things

NO_PACKS = [
    (-1, [0]), (13, [0]), (13, [1, 1]), (LARGEST, [0]), (-LARGEST, [0]), (LARGEST, [LARGEST]),
    (3, []), (0, []), (5, [0] * 6), (12, [1] * 6), (3, [0] * 2000),
    (3, [-1]), (3, [1, -1]), (3, [-1, 4]), (3, [4, -1]), (3, [-LARGEST, LARGEST]),
    (3, [4]), (3, [2, 2]), (0, [1]), (12, [13]), (12, [3, 3, 3, 3, 1]), (3, [LARGEST]), (3, [0, LARGEST]),
    (3, (1, 1)), (3, (0,)), (3, 1), (3, "1"), (3, {0: 1}), (3, {1: 1}), (3, None), (3, True),
    (True, [0]), (False, [0]), ("3", [1]), ([3], [1]), ((3,), [1]), ({3: 3}, [1]), (None, [1]), (None, None),
    (3, [True]), (3, [False]), (3, [1, True]), (3, ["1"]), (3, [None]), (3, [[1]]), (3, [(1,)]), (3, [1, {}]),
    ([1], 3), ([1], [1]),
]


def all_packs(most):
    for cards in range(most + 1):
        for hands in range(1, 6):
            for sizes in itertools.product(range(cards + 1), repeat=hands):
                if sum(sizes) <= cards:
                    yield cards, list(sizes)


def packs_with_sorted_sizes(cards):
    for hands in range(1, 6):
        for sizes in itertools.combinations_with_replacement(range(cards + 1), hands):
            if sum(sizes) <= cards:
                yield cards, list(sizes)


def rooms(cards, sizes):
    return sizes + [cards - sum(sizes)]


def reckoned(cards, sizes):
    many = math.factorial(cards)
    for room in rooms(cards, sizes):
        many //= math.factorial(room)
    return many


def tried_out(cards, sizes):
    """The deals found by trying every tuple of holders; product tells them in sorted order."""
    wanted = rooms(cards, sizes)
    every = itertools.product(range(len(wanted)), repeat=cards)
    return [deal for deal in every if [deal.count(who) for who in range(len(wanted))] == wanted]


class IsPackTest(unittest.TestCase):
    def test_packs(self):
        for cards, sizes in [
            (0, [0]), (0, [0, 0, 0, 0, 0]), (12, [0]), (12, [12]), (12, [0, 12]), (12, [3, 3, 3, 2, 1]),
            (3, [1]), (3, [1, 1]), (3, [1, 1, 1]), (7, [3, 3]), (7, [3, 3, 1]), (1, [1, 0]), (5, [1] * 5), (1, [0]),
        ]:
            self.assertIs(called_safely(self, is_pack, cards, sizes), True, (cards, sizes))

    def test_what_breaks_the_rule_is_no_pack(self):
        for cards, sizes in NO_PACKS:
            self.assertIs(called_safely(self, is_pack, cards, sizes), False, (cards, sizes))

    def test_every_count_of_cards(self):
        for cards in range(-20, 30):
            self.assertIs(is_pack(cards, [0]), 0 <= cards <= 12, cards)

    def test_every_count_of_hands(self):
        for hands in range(12):
            self.assertIs(is_pack(12, [1] * hands), 1 <= hands <= 5, hands)

    def test_sizes_up_to_the_cards_and_beyond(self):
        for cards in range(13):
            for one in range(-2, 15):
                self.assertIs(is_pack(cards, [one]), 0 <= one <= cards)
                for other in range(-2, 15):
                    self.assertIs(is_pack(cards, [one, other]), one >= 0 and other >= 0 and one + other <= cards)

    def test_strange_cards(self):
        for thing in not_whole():
            self.assertIs(called_safely(self, is_pack, thing, [0]), False)

    def test_strange_sizes(self):
        for thing in strange_things():
            if thing != [0]:
                self.assertIs(called_safely(self, is_pack, 5, thing), False)

    def test_a_strange_size(self):
        for thing in not_whole():
            for sizes in ([thing], [thing, 1], [1, thing], [1, 1, 1, 1, thing]):
                self.assertIs(called_safely(self, is_pack, 5, sizes), False)

    def test_strange_both(self):
        for cards in not_whole():
            for sizes in strange_things():
                self.assertIs(is_pack(cards, sizes), False)


class HowManyTest(unittest.TestCase):
    def test_known_counts(self):
        for cards, sizes, many in [
            (0, [0], 1), (0, [0] * 5, 1), (12, [0], 1), (12, [12], 1), (3, [1, 1], 6), (3, [1, 1, 1], 6), (3, [1], 3),
            (7, [3, 3], 140), (7, [3, 3, 1], 140), (4, [2], 6), (4, [0, 2], 6), (11, [2, 2], 1980), (11, [1, 4], 2310),
            (12, [2, 2, 2, 2, 2], 7484400), (12, [4, 4, 4], 34650),
        ]:
            self.assertEqual(how_many(cards, sizes), many, (cards, sizes))

    def test_every_pack(self):
        for cards, sizes in all_packs(7):
            many = called_safely(self, how_many, cards, sizes)
            self.assertIs(type(many), int)
            self.assertEqual(many, reckoned(cards, sizes), (cards, sizes))

    def test_the_largest_packs(self):
        for cards, sizes in packs_with_sorted_sizes(12):
            self.assertEqual(how_many(cards, sizes), reckoned(cards, sizes), sizes)


class RefusalTest(unittest.TestCase):
    def check_refused(self, cards, sizes):
        for function in (how_many, deals_of):
            with self.assertRaises(NoPack, msg=(function, cards, sizes)):
                called_safely(self, function, cards, sizes)

    def test_what_breaks_the_rule(self):
        for cards, sizes in NO_PACKS:
            self.check_refused(cards, sizes)

    def test_no_pack_comes_ahead_of_too_many(self):
        for cards, sizes in [(13, [4, 4]), (100, [50]), (40, [8, 8, 8, 8, 8]), (12, [2, 2, 2, 2, 2, 2])]:
            self.check_refused(cards, sizes)

    def test_strange_things(self):
        for thing in not_whole():
            for cards, sizes in [(thing, [0]), (thing, thing), (5, [thing]), (5, [1, thing])]:
                self.check_refused(cards, sizes)
        for thing in strange_things():
            if thing != [0]:
                self.check_refused(5, thing)


class DealsTest(unittest.TestCase):
    def test_small_packs_by_heart(self):
        self.assertEqual(deals_of(0, [0]), [()])
        self.assertEqual(deals_of(0, [0, 0, 0, 0, 0]), [()])
        self.assertEqual(deals_of(2, [0]), [(1, 1)])
        self.assertEqual(deals_of(2, [2]), [(0, 0)])
        self.assertEqual(deals_of(2, [1]), [(0, 1), (1, 0)])
        self.assertEqual(deals_of(2, [0, 1]), [(1, 2), (2, 1)])
        self.assertEqual(deals_of(3, [1, 1]), [(0, 1, 2), (0, 2, 1), (1, 0, 2), (1, 2, 0), (2, 0, 1), (2, 1, 0)])
        self.assertEqual(deals_of(3, [2, 1]), [(0, 0, 1), (0, 1, 0), (1, 0, 0)])

    def test_every_small_pack_against_trying_out(self):
        for cards, sizes in all_packs(5):
            deals = called_safely(self, deals_of, cards, sizes)
            self.assertEqual(deals, tried_out(cards, sizes), (cards, sizes))

    def test_what_each_deal_is(self):
        for cards, sizes in [
            (7, [3, 3]), (7, [3, 3, 1]), (12, [1, 1, 0]), (12, [12]), (12, [0, 0]), (12, [6, 6]), (12, [11, 1]),
            (6, [1, 1, 1, 1, 2]), (6, [2, 2, 2]), (11, [2, 2]), (11, [7, 2, 2]), (9, [1, 1, 2]), (8, [3, 3, 0, 0, 2]),
        ]:
            deals = deals_of(cards, sizes)
            self.assertIs(type(deals), list)
            self.assertEqual(len(deals), how_many(cards, sizes))
            self.assertEqual(deals, sorted(set(deals)))
            for deal in deals:
                self.assertIs(type(deal), tuple)
                self.assertEqual(len(deal), cards)
                self.assertTrue(all(type(who) is int for who in deal))
                self.assertEqual([deal.count(who) for who in range(len(sizes) + 1)], rooms(cards, sizes))

    def test_too_many_are_refused_and_no_fewer(self):
        self.assertEqual(len(deals_of(11, [2, 2])), 1980)
        self.assertEqual(len(deals_of(11, [0, 2, 7, 0])), 1980)
        for cards, sizes in [(11, [1, 4]), (7, [1] * 5), (12, [2, 2]), (12, [4, 4, 4]), (12, [2] * 5), (8, [2, 2, 2])]:
            with self.assertRaises(TooMany):
                called_safely(self, deals_of, cards, sizes)

    def test_refused_just_where_more_than_2000(self):
        for cards in range(13):
            for _, sizes in packs_with_sorted_sizes(cards):
                self.check_bound(cards, sizes)

    def check_bound(self, cards, sizes):
        if reckoned(cards, sizes) > 2000:
            with self.assertRaises(TooMany):
                deals_of(cards, sizes)
        else:
            self.assertEqual(len(deals_of(cards, sizes)), reckoned(cards, sizes))

    def test_the_list_is_the_askers_own(self):
        sizes = [1, 1]
        first = deals_of(3, sizes)
        kept = list(first)
        second = deals_of(3, sizes)
        self.assertIsNot(first, second)
        first.clear()
        self.assertEqual(second, kept)
        second.append("mine")
        self.assertEqual(deals_of(3, sizes), kept)

    def test_sizes_changed_later_change_nothing(self):
        sizes = [1, 1]
        deals = deals_of(3, sizes)
        kept = list(deals)
        sizes[0] = 2
        sizes.append(0)
        self.assertEqual(deals, kept)
        self.assertEqual(deals_of(3, [1, 1]), kept)
        self.assertEqual(deals_of(3, sizes), tried_out(3, [2, 1, 0]))


class CardsOfTest(unittest.TestCase):
    def test_by_heart(self):
        deal = (1, 0, 2, 1, 2, 0, 2)
        self.assertEqual(cards_of(deal, 0), (1, 5))
        self.assertEqual(cards_of(deal, 1), (0, 3))
        self.assertEqual(cards_of(deal, 2), (2, 4, 6))

    def test_a_holder_of_none(self):
        self.assertEqual(cards_of((), 0), ())
        self.assertEqual(cards_of((1, 1), 0), ())
        self.assertEqual(cards_of((0, 0), 1), ())

    def test_the_holders_of_a_deal_have_its_cards(self):
        for cards, sizes in [(5, [2, 1]), (6, [0, 3]), (6, [3, 3]), (4, [1, 0, 1]), (12, [1, 1])]:
            for deal in deals_of(cards, sizes):
                held = [called_safely(self, cards_of, deal, who) for who in range(len(sizes) + 1)]
                self.assertEqual([len(some) for some in held], rooms(cards, sizes))
                for who, some in enumerate(held):
                    self.assertIs(type(some), tuple)
                    self.assertEqual(list(some), sorted(some))
                    self.assertTrue(all(deal[card] == who for card in some))


if __name__ == "__main__":
    unittest.main()
