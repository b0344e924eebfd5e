"""Points 26 and 27, and points 2 and 3 as far as they touch liars."""

import random
import unittest

from knowcards.liars import how_sure, liars_of, may_be
from knowcards.tables import Table
from tests.things import arguments, called_safely


def counted(many, claims):
    """Point 26 word by word: hand by hand, whether one of its claims is False there."""
    hands = {hand for hand, truths in claims}
    return [len([hand for hand in hands if False in [truths[deal] for who, truths in claims if who == hand]])
            for deal in range(many)]


def chance_claims(chance, many, hands, most):
    often = chance.choice((0.3, 0.6, 0.9))
    return [(chance.randrange(hands), [chance.random() < often for _ in range(many)])
            for _ in range(chance.randint(0, most))]


class LiarsCase(unittest.TestCase):
    def check_numbers(self, told, expected):
        self.assertIs(type(told), list)
        self.assertEqual(told, expected)
        self.assertEqual([type(one) for one in told], [int] * len(told))

    def check_liars(self, many, claims, expected):
        self.check_numbers(called_safely(self, liars_of, many, claims), expected)

    def check_may_be(self, many, claims, most, expected):
        self.check_numbers(called_safely(self, may_be, many, claims, most), expected)

    def check_sure(self, many, claims, truths, expected):
        told = called_safely(self, how_sure, many, claims, truths)
        self.assertEqual(told, expected)
        self.assertIs(type(told), type(expected))
        if told is not None:
            self.assertEqual([type(part) for part in told], [int, int])
        return told


class InterfaceTest(unittest.TestCase):
    def test_arguments(self):
        self.assertEqual(arguments(liars_of), ["many", "claims"])
        self.assertEqual(arguments(may_be), ["many", "claims", "most"])
        self.assertEqual(arguments(how_sure), ["many", "claims", "truths"])


class LiarsOfTest(LiarsCase):
    def test_no_deals(self):
        self.check_liars(0, [], [])
        self.check_liars(0, [(0, []), (1, [])], [])

    def test_no_claims(self):
        self.check_liars(1, [], [0])
        self.check_liars(4, [], [0, 0, 0, 0])

    def test_one_claim(self):
        self.check_liars(3, [(0, [True, False, True])], [0, 1, 0])
        self.check_liars(3, [(4, [False, False, False])], [1, 1, 1])
        self.check_liars(2, [(2, [True, True])], [0, 0])

    def test_several_hands(self):
        claims = [(0, [True, False, False, True]), (1, [True, True, False, False]), (3, [True, False, False, False])]
        self.check_liars(4, claims, [0, 2, 3, 2])

    def test_several_claims_of_one_hand(self):
        claims = [(1, [True, False, False, True]), (1, [True, True, False, False])]
        self.check_liars(4, claims, [0, 1, 1, 1])
        self.check_liars(4, claims + [(0, [False, True, True, False])], [1, 1, 1, 2])
        # A hand lies by one claim alone, whichever it is, and others of its own don't mend that.
        self.check_liars(2, [(0, [False, True]), (0, [True, True]), (0, [True, True])], [1, 0])
        self.check_liars(2, [(0, [True, True]), (0, [True, True]), (0, [False, True])], [1, 0])
        self.check_liars(2, [(0, [True, False]), (1, [True, True]), (0, [True, True])], [0, 1])

    def test_the_same_claim_of_two_hands_and_twice(self):
        claim = [True, False]
        self.check_liars(2, [(0, claim), (1, claim)], [0, 2])
        self.check_liars(2, [(0, claim), (0, claim)], [0, 1])

    def test_any_claims(self):
        chance = random.Random(26)
        for _ in range(200):
            many = chance.randint(0, 9)
            claims = chance_claims(chance, many, 5, 8)
            self.check_liars(many, claims, counted(many, claims))

    def test_many_deals_and_many_claims(self):
        chance = random.Random(261)
        claims = [(number % 5, [chance.random() < 0.9 for _ in range(2000)]) for number in range(20)]
        self.check_liars(2000, claims, counted(2000, claims))
        self.check_liars(3, [(number % 5, [True, number == 7, number % 5 > 1]) for number in range(2000)], [0, 5, 2])

    def test_claims_of_a_table(self):
        table = Table(3, [1, 1])
        claims = [(0, table.truths(("holds", 0, 0))), (1, table.truths(("not", ("holds", 2, 2)))),
                  (1, table.truths(("knows", 1, ("not", ("holds", 0, 0)))))]
        self.check_liars(6, claims, counted(6, claims))
        self.check_liars(6, claims, [1, 1, 2, 1, 2, 2])


class MayBeTest(LiarsCase):
    def test_no_deals_and_no_claims(self):
        self.check_may_be(0, [], 0, [])
        self.check_may_be(0, [(0, [])], 5, [])
        self.check_may_be(3, [], 0, [0, 1, 2])
        self.check_may_be(3, [], 5, [0, 1, 2])

    def test_bounds_from_nought(self):
        claims = [(0, [True, False, False, True]), (1, [True, True, False, False]), (3, [True, False, False, False])]
        self.check_may_be(4, claims, 0, [0])
        self.check_may_be(4, claims, 1, [0])
        self.check_may_be(4, claims, 2, [0, 1, 3])
        self.check_may_be(4, claims, 3, [0, 1, 2, 3])
        self.check_may_be(4, claims, 60, [0, 1, 2, 3])
        self.check_may_be(4, claims, -1, [])

    def test_none_may_be(self):
        self.check_may_be(2, [(0, [False, False])], 0, [])
        self.check_may_be(2, [(0, [False, False])], 1, [0, 1])

    def test_any_claims(self):
        chance = random.Random(262)
        for _ in range(100):
            many = chance.randint(0, 9)
            claims = chance_claims(chance, many, 5, 8)
            for most in range(6):
                expected = [deal for deal, liars in enumerate(counted(many, claims)) if liars <= most]
                self.check_may_be(many, claims, most, expected)


class HowSureTest(LiarsCase):
    def test_true_at_all_deals(self):
        self.check_sure(0, [], [], None)
        self.check_sure(2, [], [True, True], None)
        self.check_sure(2, [(0, [False, False])], [True, True], None)

    def test_nobody_need_lie(self):
        self.check_sure(1, [], [False], (-1, 0))
        self.check_sure(3, [], [True, False, False], (-1, 1))
        self.check_sure(3, [(0, [True, False, True])], [True, False, False], (-1, 2))
        self.check_sure(3, [(0, [True, False, True]), (1, [False, True, True])], [False, False, False], (-1, 2))

    def test_the_fewest_liars(self):
        claims = [(0, [True, False, False, True]), (1, [True, True, False, False]), (3, [True, False, False, False])]
        self.check_sure(4, claims, [True, False, False, False], (1, 1))
        self.check_sure(4, claims, [True, True, False, False], (1, 3))
        self.check_sure(4, claims, [True, True, False, True], (2, 2))
        self.check_sure(4, claims, [False, False, True, True], (-1, 0))

    def test_the_least_deal_that_has_so_few(self):
        claims = [(0, [False, False, False, True, True]), (1, [False, True, True, False, False])]
        self.check_sure(5, claims, [False, False, False, False, False], (0, 1))
        self.check_sure(5, claims, [False, True, True, False, False], (0, 3))
        self.check_sure(5, claims, [False, True, True, True, False], (0, 4))
        self.check_sure(5, claims, [False, True, True, True, True], (1, 0))

    def test_any_claims(self):
        chance = random.Random(27)
        told = []
        for _ in range(300):
            many = chance.randint(1, 9)
            claims = chance_claims(chance, many, 5, 10)
            truths = [chance.random() < 0.7 for _ in range(many)]
            liars = counted(many, claims)
            wrong = [(liars[deal] - 1, deal) for deal in range(many) if not truths[deal]]
            told.append(self.check_sure(many, claims, truths, min(wrong, default=None)))
        for number in (-1, 0, 1, 2):
            self.assertIn(number, [one[0] for one in told if one is not None])

    def test_holds_whoever_lies_and_not_with_one_more(self):
        chance = random.Random(271)
        for _ in range(200):
            many = chance.randint(1, 9)
            claims = chance_claims(chance, many, 5, 10)
            truths = [chance.random() < 0.7 for _ in range(many)]
            told = how_sure(many, claims, truths)
            if told is None:
                self.assertTrue(all(truths[deal] for deal in may_be(many, claims, 5)))
            else:
                self.assertTrue(all(truths[deal] for deal in may_be(many, claims, told[0])))
                self.assertIn(told[1], may_be(many, claims, told[0] + 1))
                self.assertIs(truths[told[1]], False)

    def test_two_thousand_deals(self):
        claims = [(hand, [deal % 7 != hand for deal in range(2000)]) for hand in range(5)]
        self.check_sure(2000, claims, [deal < 1999 for deal in range(2000)], (0, 1999))
        self.check_sure(2000, claims, [deal not in (1999, 1993) for deal in range(2000)], (-1, 1993))


class OwnListsTest(unittest.TestCase):
    def test_told_lists_are_the_askers_own(self):
        claims = [(0, [True, False, True])]
        for tell in (lambda: liars_of(3, claims), lambda: may_be(3, claims, 0), lambda: liars_of(3, []),
                     lambda: may_be(3, [], 0)):
            told = tell()
            kept = list(told)
            told.append(9)
            told[0] = 9
            self.assertEqual(tell(), kept)
        self.assertEqual(claims, [(0, [True, False, True])])


if __name__ == "__main__":
    unittest.main()
