"""Points 8 and 9, and point 2 as far as it touches views."""

import random
import unittest

from knowcards.packs import cards_of, deals_of
from knowcards.views import first_view, joined, look_alike, split
from tests.things import LARGEST, arguments, called_safely, chance_view, chance_views, reached_from, view_of, winding_views

PACKS = [
    (0, [0]), (0, [0, 0, 0]), (1, [0]), (1, [1]), (3, [1]), (3, [1, 1]), (3, [0, 2]), (4, [2, 1]), (4, [2, 2]), (4, [0, 0]),
    (5, [1, 1, 1, 1, 1]), (5, [0, 2, 1]), (6, [2, 2]), (7, [3, 3, 1]), (12, [12]), (12, [0]), (12, [1, 1]),
]


def chance_values(chance, many):
    """Values as point 8 lets them be handed in: truths alone, or whole numbers and None alone."""
    if chance.random() < 0.5:
        return [chance.random() < 0.5 for _ in range(many)]
    kept = [None, 0, 1, 2, -1, LARGEST, -LARGEST, LARGEST - 1]
    return [chance.choice(kept[:chance.randint(1, len(kept))]) for _ in range(many)]


def tried_out(view, values):
    """A split view found by its words: for each the least that looked alike before and has the same value."""
    many = range(len(view))
    return [min(one for one in many if view[one] == view[other] and values[one] == values[other]) for other in many]


class ViewCase(unittest.TestCase):
    def check_view(self, view, expected):
        self.assertIs(type(view), list)
        self.assertTrue(all(type(least) is int for least in view))
        self.assertEqual(view, expected)


class InterfaceTest(unittest.TestCase):
    def test_arguments(self):
        self.assertEqual(arguments(first_view), ["deals", "hand"])
        self.assertEqual(arguments(split), ["view", "values"])
        self.assertEqual(arguments(look_alike), ["view", "one", "other"])
        self.assertEqual(arguments(joined), ["many", "views"])


class FirstViewTest(ViewCase):
    def test_three_cards_two_hands(self):
        deals = [(0, 1, 2), (0, 2, 1), (1, 0, 2), (1, 2, 0), (2, 0, 1), (2, 1, 0)]
        self.check_view(first_view(deals, 0), [0, 0, 2, 3, 2, 3])
        self.check_view(first_view(deals, 1), [0, 1, 2, 2, 1, 0])

    def test_each_hand_of_each_pack(self):
        for cards, sizes in PACKS:
            deals = deals_of(cards, sizes)
            for hand in range(len(sizes)):
                held = [cards_of(deal, hand) for deal in deals]
                self.check_view(called_safely(self, first_view, deals, hand), view_of(held))

    def test_a_hand_of_no_cards_sees_nothing(self):
        self.check_view(first_view(deals_of(4, [2, 0]), 1), [0] * 6)
        self.check_view(first_view(deals_of(4, [0, 4]), 0), [0])

    def test_a_hand_of_all_cards_sees_all(self):
        self.check_view(first_view(deals_of(5, [5]), 0), [0])
        self.check_view(first_view(deals_of(5, [2]), 0), list(range(10)))

    def test_packs_of_no_cards(self):
        for hands in range(1, 6):
            for hand in range(hands):
                self.check_view(first_view(deals_of(0, [0] * hands), hand), [0])

    def test_the_largest(self):
        deals = deals_of(11, [2, 2])
        for hand in range(2):
            view = first_view(deals, hand)
            self.check_view(view, view_of([cards_of(deal, hand) for deal in deals]))
            self.assertEqual(len(set(view)), 55)


class SplitTest(ViewCase):
    def test_truths(self):
        self.check_view(split([0, 0, 0, 0], [True, False, True, False]), [0, 1, 0, 1])
        self.check_view(split([0, 0, 0, 0], [False, False, True, True]), [0, 0, 2, 2])
        self.check_view(split([0, 1, 0, 1], [False, True, True, True]), [0, 1, 2, 1])
        self.check_view(split([0, 1, 1, 0], [True, True, False, True]), [0, 1, 2, 0])

    def test_whole_numbers_and_none(self):
        self.check_view(split([0, 0, 0, 0, 0], [None, 0, None, 1, 0]), [0, 1, 0, 3, 1])
        self.check_view(split([0, 0, 0], [LARGEST, LARGEST - 1, LARGEST]), [0, 1, 0])
        self.check_view(split([0, 0, 0, 0], [-LARGEST, LARGEST, None, -LARGEST]), [0, 1, 2, 0])
        self.check_view(split([0, 0, 2, 2], [7, 7, 7, 7]), [0, 0, 2, 2])
        self.check_view(split([0, 0, 0], [None, None, None]), [0, 0, 0])

    def test_a_view_of_no_things(self):
        self.check_view(split([], []), [])

    def test_what_looked_unlike_stays_so(self):
        self.check_view(split([0, 1, 2], [True, True, True]), [0, 1, 2])
        self.check_view(split([0, 1, 0, 1], [5, 5, 5, 5]), [0, 1, 0, 1])

    def test_any_views_and_values(self):
        chance = random.Random(8)
        for _ in range(300):
            many = chance.randint(0, 12)
            view = chance_view(chance, many, chance.randint(1, 6))
            values = chance_values(chance, many)
            once = called_safely(self, split, view, values)
            self.check_view(once, tried_out(view, values))
            others = chance_values(chance, many)
            self.check_view(split(once, others), tried_out(once, others))
            self.check_view(split(split(view, others), values), split(once, others))
            self.check_view(split(once, values), once)

    def test_two_thousand_things(self):
        view = [0] * 2000
        self.check_view(split(view, list(range(2000))), list(range(2000)))
        self.check_view(split(view, [True] * 1999 + [False]), [0] * 1999 + [1999])
        self.check_view(split(split(view, [k % 2 == 0 for k in range(2000)]), [None] * 2000), [k % 2 for k in range(2000)])


class LookAlikeTest(ViewCase):
    def test_one_thing_twice_and_two(self):
        view = [0, 1, 0, 3, 1]
        for one in range(5):
            for other in range(5):
                expected = view[one] == view[other]
                self.assertIs(called_safely(self, look_alike, view, one, other), expected)
            self.assertIs(look_alike(view, one, one), True)

    def test_the_first_view(self):
        deals = deals_of(4, [2, 1])
        view = first_view(deals, 0)
        for one in range(len(deals)):
            for other in range(len(deals)):
                self.assertIs(look_alike(view, one, other), cards_of(deals[one], 0) == cards_of(deals[other], 0))


class JoinedTest(ViewCase):
    def test_of_no_views_each_looks_alike_to_itself_alone(self):
        for many in (0, 1, 2, 7, 2000):
            self.check_view(joined(many, []), list(range(many)))

    def test_no_things_at_all(self):
        self.check_view(joined(0, [[]]), [])
        self.check_view(joined(0, [[], [], []]), [])

    def test_one_view_stays_as_it_is(self):
        chance = random.Random(9)
        for _ in range(100):
            many = chance.randint(0, 12)
            view = chance_view(chance, many, chance.randint(1, 8))
            self.check_view(called_safely(self, joined, many, [view]), view)
            self.check_view(joined(many, [view, view]), view)

    def test_roads_of_two_steps(self):
        self.check_view(joined(4, [[0, 0, 2, 3], [0, 1, 1, 3]]), [0, 0, 0, 3])
        self.check_view(joined(4, [[0, 1, 2, 2], [0, 1, 1, 3]]), [0, 1, 1, 1])
        self.check_view(joined(5, [[0, 1, 2, 3, 0], [0, 1, 2, 3, 3]]), [0, 1, 2, 0, 0])

    def test_several_views(self):
        chance = random.Random(99)
        for _ in range(400):
            many = chance.randint(1, 14)
            views = chance_views(chance, many, chance.randint(0, 5))
            expected = [min(reached_from(views, thing)) for thing in range(many)]
            self.check_view(called_safely(self, joined, many, views), expected)

    def test_roads_through_views_by_turns(self):
        for many in (2, 3, 10, 1999, 2000):
            views = winding_views(many)
            self.check_view(joined(many, views), [0] * many)
            self.check_view(joined(many, views[::-1]), [0] * many)

    def test_a_long_road_in_any_order(self):
        chance = random.Random(999)
        row = list(range(2000))
        for order in (row, row[::-1], sorted(row, key=lambda thing: (thing % 2, thing)), chance.sample(row, 2000)):
            views = [view_of([order[thing] // 2 for thing in row]), view_of([(order[thing] + 1) // 2 for thing in row])]
            self.check_view(called_safely(self, joined, 2000, views), [0] * 2000)

    def test_a_gap_in_a_long_road(self):
        views = winding_views(2000)
        views[1] = split(views[1], [thing < 1000 for thing in range(2000)])
        self.assertFalse(look_alike(views[0], 999, 1000))
        self.check_view(joined(2000, views), [0] * 1000 + [1000] * 1000)

    def test_the_first_views_of_a_pack(self):
        for cards, sizes in PACKS:
            deals = deals_of(cards, sizes)
            if len(deals) <= 60:
                views = [first_view(deals, hand) for hand in range(len(sizes))]
                expected = [min(reached_from(views, deal)) for deal in range(len(deals))]
                self.check_view(joined(len(deals), views), expected)


class OwnListsTest(unittest.TestCase):
    def check_own(self, function, *handed):
        first = called_safely(self, function, *handed)
        kept = list(first)
        first.append("more")
        first[0] = "other"
        self.assertEqual(called_safely(self, function, *handed), kept)

    def test_what_is_told_is_the_askers_own(self):
        deals = deals_of(3, [1, 1])
        view = first_view(deals, 0)
        kept = list(view)
        self.check_own(first_view, deals, 0)
        self.check_own(split, view, [True] * 6)
        self.check_own(split, view, [None, 1, 2, 3, 4, 5])
        self.check_own(joined, 6, [])
        self.check_own(joined, 6, [view])
        self.check_own(joined, 6, [view, first_view(deals, 1)])
        self.assertEqual(view, kept)
        self.assertEqual(deals, deals_of(3, [1, 1]))


if __name__ == "__main__":
    unittest.main()
