"""Point 20, and point 2 as far as it touches asks."""

import itertools
import random
import unittest

from knowcards.asks import fewest, leaves
from knowcards.tables import Table
from tests.things import LARGEST, arguments, by_figures, called_safely, chance_asks, is_it, tried_out


class InterfaceTest(unittest.TestCase):
    def test_arguments(self):
        self.assertEqual(arguments(leaves), ["asks", "some", "state"])
        self.assertEqual(arguments(fewest), ["asks", "goal", "some"])


class LeavesTest(unittest.TestCase):
    def check(self, asks, some, state, expected):
        told = called_safely(self, leaves, asks, some, state)
        self.assertIs(type(told), list)
        self.assertEqual(told, expected)

    def test_none_true_and_false(self):
        asks = [[True, True, False, False, True], [True, False, True, False, False]]
        every = [0, 1, 2, 3, 4]
        self.check(asks, every, (None, None), every)
        self.check(asks, every, (True, None), [0, 1, 4])
        self.check(asks, every, (False, None), [2, 3])
        self.check(asks, every, (None, True), [0, 2])
        self.check(asks, every, (None, False), [1, 3, 4])
        self.check(asks, every, (True, False), [1, 4])
        self.check(asks, every, (False, True), [2])

    def test_only_of_the_deals_handed_in(self):
        asks = [[True, True, False, False, True], [True, False, True, False, False]]
        self.check(asks, [1, 3], (None, None), [1, 3])
        self.check(asks, [1, 3], (True, None), [1])
        self.check(asks, [1, 3], (True, True), [])
        self.check(asks, [4], (True, False), [4])

    def test_no_asks(self):
        self.check([], [0], (), [0])
        self.check([], [1, 5, 9], (), [1, 5, 9])

    def test_answers_that_no_deal_has(self):
        self.check([[True, True]], [0, 1], (False,), [])
        self.check([[True, False], [True, False]], [0, 1], (True, False), [])

    def test_any_states(self):
        chance = random.Random(20)
        for _ in range(60):
            many = chance.randint(1, 12)
            asks = chance_asks(chance, many, 4)
            some = sorted(chance.sample(range(many), chance.randint(1, many)))
            for state in itertools.product((None, True, False), repeat=len(asks)):
                left = [deal for deal in range(many) if deal in some]
                for ask, answer in zip(asks, state):
                    if answer is not None:
                        left = [deal for deal in left if ask[deal] is answer]
                self.check(asks, some, state, left)

    def test_six_asks_and_two_thousand_deals(self):
        asks = by_figures(6, 2000)
        every = list(range(2000))
        self.check(asks, every, (None,) * 6, every)
        self.check(asks, every, (True, False, True, False, False, False), every[5::64])
        self.check(asks, every, (None,) * 5 + (True,), [deal for deal in every if deal % 64 >= 32])

    def test_what_is_told_is_the_askers_own(self):
        asks = [[True, False, True]]
        some = [0, 1, 2]
        for handed, state in (([], ()), (asks, (None,)), (asks, (True,))):
            told = leaves(handed, some, state)
            kept = list(told)
            told.append(9)
            told[0] = 9
            self.assertEqual(some, [0, 1, 2])
            self.check(handed, some, state, kept)


class FewestTest(unittest.TestCase):
    def check(self, asks, goal, some, expected):
        told = called_safely(self, fewest, asks, goal, some)
        self.assertEqual(told, expected)
        self.assertIs(type(told), type(expected))
        return told

    def test_the_same_goal_already(self):
        self.check([], [7, 7, 7], [0, 1, 2], 0)
        self.check([[True, False, True]], [7, 7, 7], [0, 1, 2], 0)
        self.check(by_figures(6, 64), [0] * 64, list(range(64)), 0)
        self.check([[True, False, True]], [7, 8, 7], [0, 2], 0)

    def test_one_deal(self):
        self.check([], [3, 4], [1], 0)
        self.check([[True, False]], [3, 4], [0], 0)
        self.check(by_figures(6, 64), list(range(64)), [63], 0)

    def test_no_asks(self):
        self.check([], [1, 2], [0, 1], None)
        self.check([], [1, 1], [0, 1], 0)

    def test_one_ask(self):
        self.check([[True, False]], [1, 2], [0, 1], 1)
        self.check([[True, True]], [1, 2], [0, 1], None)
        self.check([[True, False, False]], [5, 6, 6], [0, 1, 2], 1)
        self.check([[True, False, False]], [5, 6, 7], [0, 1, 2], None)
        self.check([[True, False, False]], [5, 6, 7], [0, 1], 1)

    def test_the_next_ask_is_chosen_by_the_answers_so_far(self):
        # The first ask tells which of the two others matters: two are enough, though all three are needed.
        asks = [[True, True, False, False], [True, False, True, True], [True, True, True, False]]
        self.check(asks, [0, 1, 2, 3], [0, 1, 2, 3], 2)
        self.check(asks[1:], [0, 1, 2, 3], [0, 1, 2, 3], None)
        self.check(by_figures(2, 4) + is_it([3], 4), [0, 0, 0, 1], [0, 1, 2, 3], 1)

    def test_the_worst_case_counts(self):
        self.check(is_it([0, 1, 2], 4), [0, 1, 2, 3], [0, 1, 2, 3], 3)
        self.check(is_it([0, 1, 2], 4), [0, 1, 2, 3], [1, 2, 3], 2)
        self.check(is_it([0, 1, 2], 4), [5, 1, 5, 5], [0, 1, 2, 3], 1)
        self.check(is_it([0, 1], 4), [0, 1, 2, 3], [0, 1, 2, 3], None)

    def test_the_best_first_ask_may_be_any(self):
        asks = is_it([0, 1, 2], 4) + [[True, True, False, False]]
        for order in itertools.permutations(asks):
            self.check(list(order), [0, 1, 2, 3], [0, 1, 2, 3], 2)

    def test_six_asks(self):
        self.check(by_figures(6, 64), list(range(64)), list(range(64)), 6)
        self.check(by_figures(6, 64), [deal % 8 for deal in range(64)], list(range(64)), 3)
        self.check(by_figures(6, 64), [bin(deal).count("1") % 2 for deal in range(64)], list(range(64)), 6)
        self.check(is_it(range(6), 7), list(range(7)), list(range(7)), 6)
        self.check(is_it(range(6), 7), list(range(7)), [0, 3, 6], 2)
        self.check(is_it(range(6), 8), list(range(8)), list(range(8)), None)
        self.check(is_it(range(6), 8), list(range(8)), list(range(7)), 6)

    def test_asks_that_tell_nothing_new(self):
        ask = [True, True, False, False]
        other = [True, False, True, False]
        self.check([ask, ask, ask, other, [True] * 4, [False] * 4], [0, 1, 2, 3], [0, 1, 2, 3], 2)
        self.check([ask, ask, ask, ask, [True] * 4, [not truth for truth in ask]], [0, 1, 2, 3], [0, 1, 2, 3], None)

    def test_goals_are_any_whole_numbers(self):
        self.check([[True, False, True]], [LARGEST, -LARGEST, LARGEST], [0, 1, 2], 1)
        self.check([[True, False, True]], [LARGEST, -LARGEST, LARGEST - 1], [0, 1, 2], None)

    def test_any_asks_and_goals(self):
        chance = random.Random(200)
        told = []
        for _ in range(500):
            many = chance.randint(1, 14)
            asks = chance_asks(chance, many, 6)
            goal = [chance.randrange(chance.randint(1, 4)) for _ in range(many)]
            some = sorted(chance.sample(range(many), chance.randint(1, many)))
            told.append(self.check(asks, goal, some, tried_out(asks, goal, some)))
        for count in (None, 0, 1, 2, 3, 4):
            self.assertIn(count, told)

    def test_goals_that_the_asks_tell(self):
        chance = random.Random(201)
        told = []
        for _ in range(150):
            many = chance.randint(1, 40)
            asks = [[chance.random() < 0.5 for _ in range(many)] for _ in range(6)]
            marks = {}
            goal = [marks.setdefault(tuple(ask[deal] for ask in asks), chance.randrange(3)) for deal in range(many)]
            told.append(self.check(asks, goal, list(range(many)), tried_out(asks, goal, list(range(many)))))
        self.assertNotIn(None, told)
        self.assertIn(5, told)

    def test_two_thousand_deals(self):
        every = list(range(2000))
        self.check(by_figures(6, 2000), [deal % 64 for deal in every], every, 6)
        self.check(by_figures(6, 2000), every, every, None)
        self.check(by_figures(6, 2000), every, every[:64], 6)
        self.check(by_figures(6, 2000), every, every[100:103], 2)

    def test_asks_of_a_table(self):
        table = Table(3, [1, 1])
        asks = [table.truths(("holds", 2, card)) for card in range(3)]
        pile = [deal.index(2) for deal in table.deals()]
        self.check(asks, pile, [0, 1, 2, 3, 4, 5], 2)
        self.check(asks, pile, [0, 1], 1)
        self.check(asks, list(range(6)), [0, 1, 2, 3, 4, 5], None)


if __name__ == "__main__":
    unittest.main()
