"""Points 12, 13 and 14, and point 2 as far as it touches reasons."""

import random
import unittest

from knowcards.packs import deals_of
from knowcards.reasons import common_why, knows_why, steps_from
from knowcards.truths import truths_of
from knowcards.views import first_view, split
from tests.things import arguments, called_safely, chance_view, chance_views, reached_from, view_of, winding_views


def chance_truths(chance, many):
    often = chance.choice((0.5, 0.9, 1))
    return [chance.random() < often for _ in range(many)]


def fewest_steps(many, views, deal):
    """The fewest steps found by trying each pair again and again, until no road gets shorter."""
    steps = [None] * many
    steps[deal] = 0
    changed = True
    while changed:
        changed = False
        for one in range(many):
            for other in range(many):
                alike = any(view[one] == view[other] for view in views)
                if alike and steps[one] is not None and (steps[other] is None or steps[other] > steps[one] + 1):
                    steps[other] = steps[one] + 1
                    changed = True
    return steps


class InterfaceTest(unittest.TestCase):
    def test_arguments(self):
        self.assertEqual(arguments(knows_why), ["view", "truths", "deal"])
        self.assertEqual(arguments(steps_from), ["many", "views", "deal"])
        self.assertEqual(arguments(common_why), ["views", "truths", "deal"])


class KnowsWhyTest(unittest.TestCase):
    def check(self, view, truths, deal):
        told = called_safely(self, knows_why, view, truths, deal)
        self.assertIs(type(told), tuple)
        self.assertEqual(len(told), 2)
        alike = [other for other in range(len(view)) if view[other] == view[deal]]
        if all(truths[other] for other in alike):
            self.assertEqual(told, ("knows", alike))
            self.assertIs(type(told[1]), list)
        else:
            self.assertEqual(told[0], "not")
            self.assertIs(type(told[1]), int)
            self.assertIn(told[1], alike)
            self.assertIs(truths[told[1]], False)

    def test_known(self):
        self.assertEqual(knows_why([0, 1, 0, 1, 0], [True, False, True, False, True], 2), ("knows", [0, 2, 4]))
        self.assertEqual(knows_why([0, 1, 0, 1, 0], [True, False, True, False, True], 4), ("knows", [0, 2, 4]))
        self.assertEqual(knows_why([0], [True], 0), ("knows", [0]))
        self.assertEqual(knows_why([0, 1, 2], [False, True, False], 1), ("knows", [1]))

    def test_not_known(self):
        self.assertEqual(knows_why([0, 0, 0], [True, True, False], 0), ("not", 2))
        self.assertEqual(knows_why([0, 0, 0], [True, True, False], 2), ("not", 2))
        self.assertEqual(knows_why([0, 1, 0, 1], [True, True, True, False], 1), ("not", 3))
        self.assertEqual(knows_why([0], [False], 0), ("not", 0))
        self.check([0, 0, 0, 0], [False, True, False, True], 3)
        self.check([0, 0, 0, 0], [False, False, False, False], 3)

    def test_any_views_and_truths(self):
        chance = random.Random(12)
        for _ in range(300):
            many = chance.randint(1, 12)
            view = chance_view(chance, many, chance.randint(1, 6))
            truths = chance_truths(chance, many)
            for deal in range(many):
                self.check(view, truths, deal)

    def test_as_the_truths_say(self):
        deals = deals_of(4, [1, 2])
        views = [first_view(deals, hand) for hand in range(2)]
        saying = ("not", ("and", ("holds", 0, 0), ("holds", 1, 1)))
        truths = truths_of(deals, views, saying)
        for hand in range(2):
            known = truths_of(deals, views, ("knows", hand, saying))
            for deal in range(len(deals)):
                self.check(views[hand], truths, deal)
                self.assertEqual(knows_why(views[hand], truths, deal)[0], "knows" if known[deal] else "not")

    def test_two_thousand_things(self):
        self.assertEqual(knows_why([0] * 2000, [True] * 2000, 77), ("knows", list(range(2000))))
        self.assertEqual(knows_why([0] * 2000, [True] * 1999 + [False], 77), ("not", 1999))


class StepsFromTest(unittest.TestCase):
    def check(self, many, views, deal):
        told = called_safely(self, steps_from, many, views, deal)
        self.assertIs(type(told), list)
        self.assertTrue(all(steps is None or type(steps) is int for steps in told))
        self.assertEqual(told, fewest_steps(many, views, deal))

    def test_no_views(self):
        self.assertEqual(steps_from(1, [], 0), [0])
        self.assertEqual(steps_from(4, [], 2), [None, None, 0, None])

    def test_one_view(self):
        self.assertEqual(steps_from(5, [[0, 1, 0, 1, 0]], 2), [1, None, 0, None, 1])
        self.assertEqual(steps_from(3, [[0, 1, 2]], 1), [None, 0, None])
        self.assertEqual(steps_from(3, [[0, 0, 0]], 1), [1, 0, 1])

    def test_by_turns(self):
        self.assertEqual(steps_from(5, [[0, 0, 2, 2, 4], [0, 1, 1, 3, 4]], 0), [0, 1, 2, 3, None])
        self.assertEqual(steps_from(5, [[0, 0, 2, 2, 4], [0, 1, 1, 3, 4]], 2), [2, 1, 0, 1, None])
        self.assertEqual(steps_from(5, [[0, 0, 2, 2, 4], [0, 1, 1, 3, 4]], 4), [None, None, None, None, 0])

    def test_a_shorter_road_by_a_later_view(self):
        self.assertEqual(steps_from(4, [[0, 0, 2, 3], [0, 1, 1, 3], [0, 1, 2, 0]], 0), [0, 1, 2, 1])
        self.assertEqual(steps_from(4, [[0, 0, 2, 2], [0, 1, 1, 3], [0, 1, 2, 0]], 0), [0, 1, 2, 1])

    def test_any_views(self):
        chance = random.Random(13)
        for _ in range(150):
            many = chance.randint(1, 12)
            views = chance_views(chance, many, chance.randint(0, 4))
            for deal in range(many):
                self.check(many, views, deal)

    def test_roads_of_many_steps(self):
        row = list(range(2000))
        self.assertEqual(steps_from(2000, winding_views(2000), 0), row)
        self.assertEqual(steps_from(2000, winding_views(2000), 1999), row[::-1])
        self.assertEqual(steps_from(2000, winding_views(2000), 700), [abs(thing - 700) for thing in row])
        views = winding_views(2000)
        views[1] = split(views[1], [thing < 1000 for thing in row])
        self.assertEqual(steps_from(2000, views, 0), row[:1000] + [None] * 1000)

    def test_the_first_views_of_a_pack(self):
        deals = deals_of(4, [1, 1, 1])
        for deal in range(len(deals)):
            self.check(len(deals), [first_view(deals, hand) for hand in range(3)], deal)


class CommonWhyTest(unittest.TestCase):
    def check(self, views, truths, deal):
        told = called_safely(self, common_why, views, truths, deal)
        self.assertIs(type(told), tuple)
        self.assertEqual(len(told), 2)
        self.assertIs(type(told[1]), list)
        reached = sorted(reached_from(views, deal))
        if all(truths[other] for other in reached):
            self.assertEqual(told, ("common", reached))
        else:
            self.assertEqual(told[0], "road")
            steps = fewest_steps(len(truths), views, deal)
            self.assertEqual(len(told[1]), min(steps[other] for other in reached if not truths[other]))
            self.check_road(views, truths, deal, told[1])
        return told[0]

    def check_road(self, views, truths, deal, road):
        at = deal
        for step in road:
            self.assertIs(type(step), tuple)
            k, other = step
            self.assertIn(k, range(len(views)))
            self.assertEqual((type(k), type(other)), (int, int))
            self.assertNotEqual(other, at)
            self.assertEqual(views[k][other], views[k][at])
            at = other
        self.assertIs(truths[at], False)

    def test_no_views(self):
        self.assertEqual(common_why([], [False, True, False], 1), ("common", [1]))
        self.assertEqual(common_why([], [True, False, True], 1), ("road", []))
        self.assertEqual(common_why([], [True], 0), ("common", [0]))

    def test_no_step_where_the_deal_itself_has_false(self):
        self.assertEqual(common_why([[0, 0, 0]], [True, False, False], 1), ("road", []))
        self.assertEqual(common_why([[0, 1, 2], [0, 0, 0]], [False, False, False], 2), ("road", []))

    def test_common(self):
        self.assertEqual(common_why([[0, 0, 2, 3], [0, 1, 1, 3]], [True, True, True, False], 1), ("common", [0, 1, 2]))
        self.assertEqual(common_why([[0, 1, 0, 1]], [False, True, False, True], 3), ("common", [1, 3]))
        self.assertEqual(common_why([[0, 0], [0, 1]], [True, True], 1), ("common", [0, 1]))

    def test_roads(self):
        views = [[0, 0, 2, 2], [0, 1, 1, 3]]
        self.assertEqual(common_why(views, [True, False, True, False], 0), ("road", [(0, 1)]))
        self.assertEqual(common_why(views, [True, True, False, True], 0), ("road", [(0, 1), (1, 2)]))
        self.assertEqual(common_why(views, [True, True, True, False], 0), ("road", [(0, 1), (1, 2), (0, 3)]))
        self.assertEqual(common_why(views, [False, True, True, True], 3), ("road", [(0, 2), (1, 1), (0, 0)]))
        self.assertEqual(common_why(views, [False, True, True, False], 2), ("road", [(0, 3)]))

    def test_the_nearest_one_is_gone_to(self):
        self.assertEqual(common_why([[0, 1, 1, 3], [0, 0, 2, 2], [0, 1, 2, 0]], [True, True, False, False], 0),
                         ("road", [(2, 3)]))

    def test_any_views_and_truths(self):
        chance = random.Random(14)
        told = []
        for _ in range(250):
            many = chance.randint(1, 10)
            views = chance_views(chance, many, chance.randint(0, 4))
            truths = chance_truths(chance, many)
            for deal in range(many):
                told.append(self.check(views, truths, deal))
        self.assertGreater(told.count("road"), 100)
        self.assertGreater(told.count("common"), 100)

    def test_views_twice_and_views_that_show_all(self):
        twice = [[0, 0, 0, 3], [0, 0, 0, 3], [0, 1, 2, 3]]
        self.check(twice, [True, True, False, True], 0)
        self.check(twice, [True, True, True, False], 0)
        self.check(twice, [True, True, True, False], 3)

    def test_roads_of_many_steps(self):
        views = winding_views(2000)
        kind, road = common_why(views, [True] * 1999 + [False], 0)
        self.assertEqual(kind, "road")
        self.assertEqual([other for _, other in road], list(range(1, 2000)))
        self.check_road(views, [True] * 1999 + [False], 0, road)
        kind, road = common_why(views, [False] + [True] * 1998 + [False], 800)
        self.assertEqual((kind, len(road)), ("road", 800))
        self.check_road(views, [False] + [True] * 1998 + [False], 800, road)
        self.assertEqual(common_why(views, [True] * 2000, 5), ("common", list(range(2000))))

    def test_as_the_truths_say(self):
        deals = deals_of(4, [1, 2])
        firsts = [first_view(deals, hand) for hand in range(2)]
        finer = [split(view, [deal[0] for deal in deals]) for view in firsts]
        coarse = [view_of([deal[0] for deal in deals]), view_of([deal[1] == 2 for deal in deals])]
        for views in (firsts, finer, coarse):
            for saying in (("holds", 0, 0), ("not", ("holds", 1, 0)), ("or", ("holds", 0, 0), ("holds", 2, 0)), ("sees", 1)):
                truths = truths_of(deals, views, saying)
                for some in ((), (0,), (1,), (0, 1)):
                    common = truths_of(deals, views, ("common", some, saying))
                    for deal in range(len(deals)):
                        told = self.check([views[hand] for hand in some], truths, deal)
                        self.assertEqual(told, "common" if common[deal] else "road")


class OwnListsTest(unittest.TestCase):
    def check_own(self, tell):
        first = tell()
        kept = list(first)
        first.append("more")
        first[0] = "other"
        self.assertEqual(tell(), kept)

    def test_what_is_told_is_the_askers_own(self):
        views = [[0, 0, 2, 2], [0, 1, 1, 3]]
        known = [True, True, True, True]
        lone = [True, True, True, False]
        self.check_own(lambda: called_safely(self, knows_why, views[0], known, 1)[1])
        self.check_own(lambda: called_safely(self, steps_from, 4, views, 1))
        self.check_own(lambda: called_safely(self, steps_from, 4, [], 1))
        self.check_own(lambda: called_safely(self, common_why, views, known, 1)[1])
        self.check_own(lambda: called_safely(self, common_why, views, lone, 0)[1])
        self.assertEqual(views, [[0, 0, 2, 2], [0, 1, 1, 3]])
        self.assertEqual((known, lone), ([True] * 4, [True, True, True, False]))


if __name__ == "__main__":
    unittest.main()
