"""Points 10 and 11, and point 2 as far as it touches truths."""

import random
import unittest

from knowcards.packs import deals_of
from knowcards.truths import truths_of
from knowcards.views import first_view, split
from tests.things import (CARDS, HANDS, HOLDS, PILE, SEES, arguments, built_sayings, called_safely, chained, chance_saying,
                          chance_views, deny, nested, true_at, view_of, winding_views)


def first_views(deals, hands):
    return [first_view(deals, hand) for hand in range(hands)]


def split_views(chance, views):
    """Each of the views split by some truths, each hand by its own."""
    return [split(view, [chance.random() < 0.5 for _ in view]) for view in views]


class TruthCase(unittest.TestCase):
    def check_truths(self, deals, views, saying, expected):
        told = called_safely(self, truths_of, deals, views, saying)
        self.assertIs(type(told), list)
        self.assertTrue(all(type(truth) is bool for truth in told), saying)
        self.assertEqual(told, expected, saying)

    def check_as_told(self, deals, views, saying):
        self.check_truths(deals, views, saying, [true_at(deals, views, saying, deal) for deal in range(len(deals))])

    def check_everywhere(self, deals, views, saying):
        self.check_truths(deals, views, saying, [True] * len(deals))


class EachWordTest(TruthCase):
    """Three cards, two hands of one, one in the pile: each hand sees its own card."""

    def setUp(self):
        self.deals = deals_of(3, [1, 1])
        self.views = first_views(self.deals, 2)

    def check(self, saying, where):
        self.check_truths(self.deals, self.views, saying, [deal in where for deal in range(6)])
        self.check_as_told(self.deals, self.views, saying)

    def test_arguments(self):
        self.assertEqual(arguments(truths_of), ["deals", "views", "S"])

    def test_holds(self):
        self.assertEqual(self.deals, [(0, 1, 2), (0, 2, 1), (1, 0, 2), (1, 2, 0), (2, 0, 1), (2, 1, 0)])
        self.check(("holds", 0, 0), [0, 1])
        self.check(("holds", 1, 0), [2, 3])
        self.check(("holds", 2, 0), [4, 5])
        self.check(("holds", 2, 2), [0, 2])

    def test_not_and_or(self):
        self.check(("not", ("holds", 0, 0)), [2, 3, 4, 5])
        self.check(("and", ("holds", 0, 0), ("holds", 1, 1)), [0])
        self.check(("or", ("holds", 0, 0), ("holds", 1, 1)), [0, 1, 5])
        self.check(("and", ("holds", 0, 0), ("holds", 0, 1)), [])
        self.check(("or", ("holds", 0, 0), ("not", ("holds", 0, 0))), range(6))

    def test_knows(self):
        self.check(("knows", 0, ("holds", 0, 0)), [0, 1])
        self.check(("knows", 1, ("holds", 0, 0)), [])
        self.check(("knows", 1, ("not", ("holds", 0, 0))), [2, 3])
        self.check(("not", ("knows", 1, ("holds", 0, 0))), range(6))
        self.check(("knows", 0, ("not", ("knows", 1, ("holds", 0, 0)))), range(6))
        self.check(("knows", 0, ("knows", 1, ("not", ("holds", 0, 0)))), [])

    def test_all(self):
        self.check(("all", (0,), ("holds", 0, 0)), [0, 1])
        self.check(("all", (0, 1), ("holds", 0, 0)), [])
        self.check(("all", (0, 1), ("not", ("holds", 2, 0))), [])
        self.check(("all", (0, 1), ("or", ("not", ("holds", 0, 0)), ("not", ("holds", 1, 0)))), range(6))
        self.check(("all", (0, 1), ("not", ("and", ("holds", 0, 0), ("holds", 1, 1)))), [2, 3, 4])

    def test_all_of_no_hands_is_true_everywhere(self):
        self.check(("all", (), ("holds", 0, 0)), range(6))
        self.check(("all", (), ("and", ("holds", 0, 0), ("holds", 1, 0))), range(6))
        self.check(("not", ("all", (), ("holds", 0, 0))), [])

    def test_common(self):
        self.check(("common", (0,), ("holds", 0, 0)), [0, 1])
        self.check(("common", (0, 1), ("not", ("and", ("holds", 0, 0), ("holds", 1, 1)))), [])
        self.check(("common", (0, 1), ("or", ("not", ("holds", 0, 0)), ("not", ("holds", 1, 0)))), range(6))

    def test_common_of_no_hands_is_true_where_it_is_true(self):
        self.check(("common", (), ("holds", 0, 0)), [0, 1])
        self.check(("common", (), ("not", ("holds", 1, 2))), [0, 2, 3, 5])

    def test_sees(self):
        self.check(("sees", 0), [])
        self.check(("not", ("sees", 1)), range(6))
        self.views[0] = split(self.views[0], [True, False, False, False, False, False])
        self.check(("sees", 0), [0, 1])
        self.check(("sees", 1), [])
        self.check(("knows", 1, ("sees", 0)), [])
        self.views[1] = split(self.views[1], [1, None, 2, 2, None, 1])
        self.check(("sees", 1), [])
        self.views[1] = split(self.views[1], [3, 4, 5, 6, 7, 8])
        self.check(("sees", 1), range(6))


class SeesTest(TruthCase):
    def check_sees(self, cards, sizes, expected):
        deals = deals_of(cards, sizes)
        views = first_views(deals, len(sizes))
        for hand in range(len(sizes)):
            self.check_truths(deals, views, ("sees", hand), [expected[hand]] * len(deals))

    def test_where_there_is_no_pile(self):
        self.check_sees(3, [1, 1, 1], [True, True, True])
        self.check_sees(4, [2, 2, 0], [True, True, True])
        self.check_sees(0, [0, 0], [True, True])

    def test_where_all_other_cards_lie_in_it(self):
        self.check_sees(4, [2], [True])
        self.check_sees(4, [0, 2, 0], [False, True, False])
        self.check_sees(4, [0, 0], [True, True])

    def test_where_others_hold_cards_too(self):
        self.check_sees(4, [2, 1], [False, False])
        self.check_sees(5, [1, 1, 1, 1], [False] * 4)

    def test_other_hands_may_be_known_though_the_pile_is_not(self):
        deals = deals_of(3, [1, 1, 1])
        self.check_truths(deals, [[0] * 6, [0] * 6, [0] * 6], ("sees", 1), [True] * 6)
        deals = deals_of(3, [0, 1])
        self.check_truths(deals, [[0, 0, 2], [0, 1, 1]], ("sees", 0), [False, False, True])
        self.check_truths(deals, [[0, 0, 2], [0, 1, 1]], ("sees", 1), [True, False, False])


class AnyViewsTest(TruthCase):
    def test_each_form_and_what_is_built_of_them(self):
        deals = deals_of(CARDS, [1, 1, 1])
        chance = random.Random(10)
        every = [saying for saying, words, _ in built_sayings() if words <= 30]
        for saying in every[:97] + chance.sample(every, 40):
            for views in (first_views(deals, HANDS), chance_views(chance, len(deals), HANDS)):
                self.check_as_told(deals, views, saying)

    def test_any_sayings_by_first_views_split_views_and_others(self):
        chance = random.Random(100)
        for cards, sizes in [(0, [0]), (1, [0, 1]), (3, [1, 1]), (3, [1, 1, 1]), (4, [2, 1]), (4, [0, 2, 1])]:
            deals = deals_of(cards, sizes)
            firsts = first_views(deals, len(sizes))
            for _ in range(40):
                saying = chance_saying(chance, cards, len(sizes), chance.randint(0, 3))
                self.check_as_told(deals, firsts, saying)
                self.check_as_told(deals, split_views(chance, firsts), saying)
                self.check_as_told(deals, chance_views(chance, len(deals), len(sizes)), saying)

    def test_five_hands(self):
        deals = deals_of(5, [1, 0, 1, 0, 2])
        chance = random.Random(5)
        for _ in range(20):
            self.check_as_told(deals, first_views(deals, 5), chance_saying(chance, 5, 5, 2))

    def test_thirty_words(self):
        deals = deals_of(CARDS, [1, 1, 1])
        views = first_views(deals, HANDS)
        self.check_truths(deals, views, nested(deny, HOLDS, 29), [deal[1] != 0 for deal in deals])
        self.check_truths(deals, views, deny(chained("or", 15)), [deal[1] != 0 for deal in deals])
        self.check_truths(deals, views, nested(lambda inner: ("knows", 0, inner), HOLDS, 29), [deal[1] == 0 for deal in deals])
        self.check_truths(deals, views, nested(lambda inner: ("common", (0,), inner), deny(SEES), 28), [True] * len(deals))

    def test_a_long_road(self):
        deals = deals_of(11, [2, 2])
        many = len(deals)
        lone = ("not", ("and", ("holds", 0, 0), ("and", ("holds", 0, 1), ("and", ("holds", 1, 2), ("holds", 1, 3)))))
        views = winding_views(many)
        self.check_truths(deals, views, lone, [False] + [True] * (many - 1))
        self.check_truths(deals, views, ("all", (0, 1), lone), [False] * 2 + [True] * (many - 2))
        self.check_truths(deals, views, ("common", (0, 1), lone), [False] * many)
        self.check_truths(deals, views, ("common", (1,), lone), [False] + [True] * (many - 1))
        self.check_truths(deals, views, ("all", (0, 1), ("all", (0, 1), lone)), [False] * 3 + [True] * (many - 3))

    def test_the_pile_is_no_hand_with_a_view(self):
        deals = deals_of(4, [1, 1, 1])
        views = [view_of([deal[card] for deal in deals]) for card in range(3)]
        self.check_truths(deals, views, ("holds", PILE, 2), [deal[2] == PILE for deal in deals])
        self.check_truths(deals, views, ("knows", 2, ("holds", PILE, 2)), [deal[2] == PILE for deal in deals])


class NothingFalseTest(TruthCase):
    """Point 11, for any sayings by any views."""

    def each(self, count):
        chance = random.Random(11)
        deals = deals_of(4, [1, 2])
        for number in range(count):
            views = first_views(deals, 2) if number % 3 == 0 else chance_views(chance, len(deals), 2)
            yield deals, views, chance_saying(chance, 4, 2, chance.randint(0, 3))

    def follows(self, one, other):
        return ("or", ("not", one), other)

    def test_what_is_known_is_true(self):
        for deals, views, saying in self.each(90):
            for hand in range(2):
                knows = ("knows", hand, saying)
                self.check_everywhere(deals, views, self.follows(knows, saying))
                self.check_everywhere(deals, views, self.follows(knows, ("knows", hand, knows)))
                self.check_everywhere(deals, views, self.follows(("not", knows), ("knows", hand, ("not", knows))))

    def test_what_all_of_some_know(self):
        for deals, views, saying in self.each(90):
            for some in ((0,), (1,), (0, 1)):
                self.check_everywhere(deals, views, self.follows(("all", some, saying), saying))
            knows = ("and", ("knows", 0, saying), ("knows", 1, saying))
            self.check_truths(deals, views, ("all", (0, 1), saying), truths_of(deals, views, knows))
            self.check_truths(deals, views, ("all", (1,), saying), truths_of(deals, views, ("knows", 1, saying)))

    def test_what_is_common(self):
        for deals, views, saying in self.each(90):
            for some in ((), (0,), (1,), (0, 1)):
                common = ("common", some, saying)
                self.check_everywhere(deals, views, self.follows(common, saying))
                self.check_everywhere(deals, views, self.follows(common, ("common", some, common)))
                for hand in some:
                    self.check_everywhere(deals, views, self.follows(common, ("knows", hand, saying)))
                    self.check_everywhere(deals, views, self.follows(common, ("knows", hand, common)))

    def test_of_cards_alone_and_known_stays_known_under_split_views(self):
        chance = random.Random(111)
        deals = deals_of(4, [1, 2])
        alone = [saying for saying, words, alone in built_sayings() if alone and words <= 30 and "3" not in str(saying)]
        for saying in chance.sample(alone, 60):
            views = chance_views(chance, len(deals), 2)
            finer = split_views(chance, views)
            for told in (("knows", 0, saying), ("knows", 1, saying), ("all", (0, 1), saying), ("common", (0, 1), saying)):
                before = truths_of(deals, views, told)
                after = truths_of(deals, finer, told)
                self.assertTrue(all(then for now, then in zip(before, after) if now), told)


class OwnListsTest(TruthCase):
    def test_what_is_told_is_the_askers_own(self):
        deals = deals_of(3, [1, 1])
        views = first_views(deals, 2)
        for saying in (("holds", 0, 0), ("sees", 0), ("not", ("sees", 0)), ("and", ("sees", 0), ("sees", 1)),
                       ("or", ("sees", 0), ("sees", 1)), ("knows", 0, ("sees", 1)), ("all", (), ("sees", 0)),
                       ("all", (0,), ("sees", 0)), ("common", (), ("sees", 0)), ("common", (1,), ("sees", 0))):
            first = called_safely(self, truths_of, deals, views, saying)
            kept = list(first)
            first[0] = "other"
            first.append(True)
            self.check_truths(deals, views, saying, kept)
        self.assertEqual(views, first_views(deals_of(3, [1, 1]), 2))


if __name__ == "__main__":
    unittest.main()
