"""Points 21 and 22, and points 2 and 3 as far as they touch trees and papers."""

import itertools
import random
import unittest

from knowcards.asks import fewest
from knowcards.fewest import too_few, tree_of
from knowcards.tables import Table
from tests.things import LARGEST, arguments, by_figures, called_safely, chance_asks, is_it, tried_out

FOUR = [0, 1, 2, 3]


def depth_of(tree):
    return 0 if tree[0] == "goal" else 1 + max(depth_of(tree[2]), depth_of(tree[3]))


def led_to(tree, asks, deal):
    """The goal to which one comes at this deal, going down by the answers."""
    while tree[0] == "ask":
        tree = tree[2] if asks[tree[1]][deal] else tree[3]
    return tree[1]


def leaves_two(asks, goal, some, state):
    """Whether two deals of unlike goals have the state's answers."""
    left = [deal for deal in some if all(answer in (None, ask[deal]) for ask, answer in zip(asks, state))]
    return len({goal[deal] for deal in left}) > 1


class AsksCase(unittest.TestCase):
    def setUp(self):
        self.told = []

    def check_form(self, tree, asks):
        self.assertIs(type(tree), tuple)
        self.assertIn(tree[0], ("goal", "ask"))
        self.assertEqual(len(tree), 2 if tree[0] == "goal" else 4)
        self.assertIs(type(tree[1]), int)
        if tree[0] == "ask":
            self.assertIn(tree[1], range(len(asks)))
            self.check_form(tree[2], asks)
            self.check_form(tree[3], asks)

    def check_tree(self, asks, goal, some, expected):
        """The tree itself is free: it must tell each deal's goal, and have the fewest depth."""
        tree = called_safely(self, tree_of, asks, goal, some)
        if expected is None:
            self.assertIsNone(tree)
            return
        self.check_form(tree, asks)
        self.assertEqual(depth_of(tree), expected)
        self.assertEqual([led_to(tree, asks, deal) for deal in some], [goal[deal] for deal in some])

    def check_answers(self, asks, row, rows):
        state, left, answers = row
        self.assertEqual(len(answers), len(asks))
        for number, answer in enumerate(answers):
            if state[number] is not None:
                self.assertIsNone(answer)
            else:
                self.assertIs(type(answer), bool)
                self.assertIn((state[:number] + (answer,) + state[number + 1:], left - 1), rows)

    def check_paper(self, asks, goal, some, k):
        """Point 22 word by word."""
        paper = called_safely(self, too_few, asks, goal, some, k)
        self.assertIs(type(paper), list)
        for row in paper:
            self.assertEqual([type(part) for part in row], [tuple, int, list])
            self.assertIs(type(row), tuple)
            self.assertEqual(len(row[0]), len(asks))
            self.assertTrue(all(answer is None or type(answer) is bool for answer in row[0]))
        rows = [(state, left) for state, left, answers in paper]
        self.assertEqual(len(set(rows)), len(rows))
        self.assertIn(((None,) * len(asks), k), rows)
        for row in paper:
            self.assertTrue(leaves_two(asks, goal, some, row[0]))
            self.assertGreaterEqual(row[1], 0)
            if row[1] > 0:
                self.check_answers(asks, row, set(rows))
            else:
                self.assertEqual(row[2], [])

    def check(self, asks, goal, some, expected):
        """Tree and paper together, for every k."""
        self.told.append(expected)
        self.check_tree(asks, goal, some, expected)
        for k in range(7):
            if expected is None or k < expected:
                self.check_paper(asks, goal, some, k)
            else:
                self.assertIsNone(called_safely(self, too_few, asks, goal, some, k))


class InterfaceTest(unittest.TestCase):
    def test_arguments(self):
        self.assertEqual(arguments(tree_of), ["asks", "goal", "some"])
        self.assertEqual(arguments(too_few), ["asks", "goal", "some", "k"])


class FewTest(AsksCase):
    def test_one_goal_already(self):
        self.assertEqual(tree_of([], [7, 7, 7], [0, 1, 2]), ("goal", 7))
        self.assertEqual(tree_of([[True, False, True]], [7, 8, 7], [0, 2]), ("goal", 7))
        self.assertEqual(tree_of(by_figures(6, 64), [0] * 64, list(range(64))), ("goal", 0))
        self.assertEqual(tree_of(by_figures(6, 64), list(range(64)), [63]), ("goal", 63))
        for k in range(7):
            self.assertIsNone(too_few([], [7, 7, 7], [0, 1, 2], k))
            self.assertIsNone(too_few([[True, False, True]], [7, 8, 7], [0, 2], k))
            self.assertIsNone(too_few(by_figures(6, 64), [0] * 64, list(range(64)), k))

    def test_no_asks(self):
        self.assertIsNone(tree_of([], [1, 2], [0, 1]))
        self.check([], [1, 2], [0, 1], None)
        self.check([], [1, 2], [1], 0)
        for k in range(7):
            self.assertEqual(too_few([], [1, 2], [0, 1], k), [((), k, [])])

    def test_one_ask(self):
        self.assertEqual(tree_of([[True, False, False]], [5, 6, 6], [0, 1, 2]), ("ask", 0, ("goal", 5), ("goal", 6)))
        self.assertEqual(tree_of([[False, True]], [5, 6], [0, 1]), ("ask", 0, ("goal", 6), ("goal", 5)))
        self.assertEqual(too_few([[True, False, False]], [5, 6, 6], [0, 1, 2], 0), [((None,), 0, [])])
        self.check([[True, False, False]], [5, 6, 6], [0, 1, 2], 1)
        self.check([[True, True]], [1, 2], [0, 1], None)
        self.check([[False, False]], [1, 2], [0, 1], None)
        self.check([[True, False, False]], [5, 6, 7], [0, 1, 2], None)

    def test_all_asks_asked_and_more_left(self):
        # Behind the one ask nothing is left to be asked, and the answers say so.
        self.assertEqual(too_few([[True, True]], [1, 2], [0, 1], 1), [((None,), 1, [True]), ((True,), 0, [])])
        self.assertEqual(too_few([[False, False]], [1, 2], [0, 1], 3), [((None,), 3, [False]), ((False,), 2, [None])])
        self.assertEqual(too_few([[True, False, False]], [5, 6, 7], [0, 1, 2], 6),
                         [((None,), 6, [False]), ((False,), 5, [None])])

    def test_the_next_ask_is_chosen_by_the_answers_so_far(self):
        asks = [[True, True, False, False], [True, False, True, True], [True, True, True, False]]
        self.assertEqual(tree_of(asks, [0, 1, 2, 3], FOUR),
                         ("ask", 0, ("ask", 1, ("goal", 0), ("goal", 1)), ("ask", 2, ("goal", 2), ("goal", 3))))
        self.check(asks, [0, 1, 2, 3], FOUR, 2)
        self.check(asks[1:], [0, 1, 2, 3], FOUR, None)
        for order in itertools.permutations(is_it([0, 1, 2], 4) + [[True, True, False, False]]):
            self.check(list(order), [0, 1, 2, 3], FOUR, 2)

    def test_from_one_to_six_asks(self):
        for figures in range(1, 7):
            many = 2 ** figures
            self.check(by_figures(figures, many), list(range(many)), list(range(many)), figures)
            self.check(is_it(range(figures), figures + 1), list(range(figures + 1)), list(range(figures + 1)), figures)
            self.check(is_it(range(figures), figures + 2), list(range(figures + 2)), list(range(figures + 2)), None)
        self.check(by_figures(6, 64), [bin(deal).count("1") % 2 for deal in range(64)], list(range(64)), 6)
        self.check(by_figures(6, 64), [deal // 8 for deal in range(64)], list(range(64)), 3)

    def test_only_the_deals_handed_in_count(self):
        self.check(is_it([0, 1, 2], 4), [0, 1, 2, 3], [1, 2, 3], 2)
        self.check(is_it([0, 1], 4), [0, 1, 2, 3], [0, 1, 3], 2)
        self.check(is_it([0, 1], 4), [0, 1, 2, 3], [2, 3], None)

    def test_asks_that_tell_nothing_new(self):
        ask = [True, True, False, False]
        other = [True, False, True, False]
        self.check([ask, ask, [True] * 4, other, ask, [False] * 4], [0, 1, 2, 3], FOUR, 2)
        self.check([ask, ask, ask, ask, [True] * 4, [not truth for truth in ask]], [0, 1, 2, 3], FOUR, None)

    def test_great_goals_and_goals_below_nought(self):
        self.check([[True, False, True]], [LARGEST, -LARGEST, LARGEST], [0, 1, 2], 1)
        self.check([[True, False, True]], [LARGEST, -LARGEST, LARGEST - 1], [0, 1, 2], None)
        self.check(by_figures(2, 4), [-1, -2, LARGEST, -LARGEST], FOUR, 2)
        self.assertEqual(tree_of([], [-3, -3], [0, 1]), ("goal", -3))

    def test_any_asks_and_goals(self):
        chance = random.Random(21)
        for _ in range(200):
            many = chance.randint(1, 12)
            asks = chance_asks(chance, many, 6)
            goal = [chance.randint(-2, chance.randint(-2, 2)) for _ in range(many)]
            some = sorted(chance.sample(range(many), chance.randint(1, many)))
            self.check(asks, goal, some, tried_out(asks, goal, some))
        for count in (None, 0, 1, 2, 3):
            self.assertIn(count, self.told)

    def test_goals_that_six_asks_tell(self):
        chance = random.Random(22)
        for _ in range(40):
            many = chance.randint(20, 40)
            asks = [[chance.random() < 0.5 for _ in range(many)] for _ in range(6)]
            marks = {}
            goal = [marks.setdefault(tuple(ask[deal] for ask in asks), chance.randrange(3)) for deal in range(many)]
            every = list(range(many))
            self.check(asks, goal, every, fewest(asks, goal, every))
        self.assertIn(4, self.told)
        self.assertIn(5, self.told)
        self.assertNotIn(None, self.told)

    def test_two_thousand_deals(self):
        every = list(range(2000))
        self.check(by_figures(6, 2000), [deal % 64 for deal in every], every, 6)
        self.check(by_figures(6, 2000), every, every, None)

    def test_asks_of_a_table(self):
        table = Table(3, [1, 1])
        asks = [table.truths(("holds", 2, card)) for card in range(3)]
        pile = [deal.index(2) for deal in table.deals()]
        self.check(asks, pile, [0, 1, 2, 3, 4, 5], 2)
        self.check(asks, list(range(6)), [0, 1, 2, 3, 4, 5], None)


class BeyondTest(AsksCase):
    """What lies somewhat beyond the bounds of point 20 is not refused."""

    def test_more_than_six_asks(self):
        self.check_tree(by_figures(7, 128), list(range(128)), list(range(128)), 7)
        for k in range(7):
            self.check_paper(by_figures(7, 128), list(range(128)), list(range(128)), k)
        self.assertIsNone(too_few(by_figures(7, 128), list(range(128)), list(range(128)), 7))
        self.check(is_it(range(7), 9), list(range(9)), list(range(9)), None)

    def test_a_number_below_nought_or_above_six(self):
        for asks, goal in (([], [1, 2]), ([[True, False]], [1, 2]), ([[True, True]], [1, 2]), ([], [1, 1])):
            self.assertIsNone(too_few(asks, goal, [0, 1], -1))
            self.assertIsNone(too_few(asks, goal, [0, 1], 7))

    def test_no_deals(self):
        self.check([], [], [], 0)
        self.check([[True, False]], [1, 2], [], 0)


class OwnListsTest(unittest.TestCase):
    def test_a_paper_is_the_askers_own(self):
        asks = is_it(range(4), 6)
        goal = list(range(6))
        for k in (0, 2, 6):
            told = too_few(asks, goal, [0, 1, 2, 3, 4, 5], k)
            kept = [(state, left, list(answers)) for state, left, answers in told]
            told[0][2].append("more")
            self.assertEqual(told[1:], kept[1:])
            told.clear()
            self.assertEqual(too_few(asks, goal, [0, 1, 2, 3, 4, 5], k), kept)


if __name__ == "__main__":
    unittest.main()
