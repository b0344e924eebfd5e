"""Points 18 and 19, and point 2 as far as it touches plays."""

import random
import unittest

from knowcards.packs import deals_of
from knowcards.plays import first_turns, play
from knowcards.tables import Table
from knowcards.views import first_view, split
from tests.things import arguments, called_safely, chance_saying, true_at, view_of

EVERYWHERE = ("or", ("holds", 0, 0), ("not", ("holds", 0, 0)))


def played_out(deals, views, sayings, turns):
    """Point 18 word by word: all turns up to the count are played, then the end is sought among them."""
    views = [list(view) for view in views]
    told = []
    quiet = []
    for turn in range(turns):
        saying = sayings[turn % len(sayings)]
        truths = [true_at(deals, views, saying, deal) for deal in range(len(deals))]
        finer = [view_of(list(zip(view, truths))) for view in views]
        told.append(truths)
        quiet.append(finer == views)
        views = finer
    for turn in range(turns):
        last = quiet[:turn + 1][-len(sayings):]
        if len(last) == len(sayings) and all(last):
            return told[:turn + 1]
    return told


def bound(word, sayings):
    """The sayings bound into one by a word between each two."""
    whole = sayings[0]
    for saying in sayings[1:]:
        whole = (word, whole, saying)
    return whole


def beside(card):
    """Of five cards: hand 1 holds one of the card's neighbours."""
    return [("holds", 1, other) for other in range(5) if abs(card - other) == 1]


def standing(table, hands):
    return [[table.view(hand) for hand in range(hands)],
            [[table.saw(hand, deal) for deal in range(len(table.deals()))] for hand in range(hands)]]


class InterfaceTest(unittest.TestCase):
    def test_arguments(self):
        self.assertEqual(arguments(play), ["table", "sayings", "turns"])
        self.assertEqual(arguments(first_turns), ["many", "answers"])


class PlayTest(unittest.TestCase):
    def check(self, table, hands, sayings, turns):
        before = standing(table, hands)
        views = [table.view(hand) for hand in range(hands)]
        kept = list(sayings)
        told = play(table, sayings, turns)
        self.assertIs(type(told), list)
        for truths in told:
            self.assertIs(type(truths), list)
            self.assertTrue(all(type(truth) is bool for truth in truths))
        self.assertEqual(told, played_out(table.deals(), views, sayings, turns))
        self.assertEqual(standing(table, hands), before)
        self.assertEqual(sayings, kept)
        return told

    def test_no_turns(self):
        self.assertEqual(self.check(Table(3, [1, 1]), 2, [("holds", 0, 0)], 0), [])
        self.assertEqual(self.check(Table(3, [1, 1]), 2, [("holds", 0, 0), ("sees", 0)], 0), [])

    def test_one_turn(self):
        table = Table(3, [1, 1])
        self.assertEqual(self.check(table, 2, [("holds", 0, 0)], 1), [[True, True, False, False, False, False]])
        self.assertEqual(self.check(table, 2, [("holds", 0, 0), ("holds", 1, 1)], 1), [[True, True, False, False, False, False]])

    def test_one_saying_ends_behind_the_first_turn_that_splits_nothing(self):
        table = Table(3, [1, 1])
        holds = [True, True, False, False, False, False]
        self.assertEqual(self.check(table, 2, [("holds", 0, 0)], 60), [holds, holds])
        self.assertEqual(self.check(table, 2, [("holds", 0, 0)], 2), [holds, holds])
        self.assertEqual(self.check(table, 2, [EVERYWHERE], 60), [[True] * 6])
        self.assertEqual(self.check(table, 2, [("sees", 0)], 60), [[False] * 6])

    def test_not_ahead_of_as_many_turns_as_there_are_sayings(self):
        table = Table(3, [1, 1])
        for many in range(1, 8):
            self.assertEqual(len(self.check(table, 2, [EVERYWHERE] * many, 60)), many)
            self.assertEqual(len(self.check(table, 2, [EVERYWHERE] * many, many)), many)
            self.assertEqual(len(self.check(table, 2, [EVERYWHERE] * many, many - 1)), many - 1)
        self.assertEqual(len(self.check(table, 2, [EVERYWHERE] * 100, 60)), 60)

    def test_a_split_late_in_the_list_begins_the_count_anew(self):
        table = Table(3, [1, 1])
        still = [EVERYWHERE] * 3
        self.assertEqual(len(self.check(table, 2, still + [("holds", 0, 0)], 60)), 8)
        self.assertEqual(len(self.check(table, 2, [("holds", 0, 0)] + still, 60)), 5)
        self.assertEqual(len(self.check(table, 2, still[:1] + [("holds", 0, 0)] + still[:2], 60)), 6)
        self.assertEqual(len(self.check(table, 2, still + [("holds", 0, 0)], 7)), 7)

    def test_a_view_of_one_hand_alone_split_goes_on(self):
        # Each hand already sees its own card, so each of these words splits the other's view alone.
        table = Table(2, [1, 0])
        self.assertEqual(len(self.check(table, 2, [("holds", 0, 0)], 60)), 2)
        table = Table(2, [0, 1])
        self.assertEqual(len(self.check(table, 2, [("holds", 1, 0)], 60)), 2)

    def test_shorter_and_longer_than_the_turns(self):
        table = Table(4, [1, 1, 1])
        sayings = [("sees", hand) for hand in range(3)]
        self.check(table, 3, sayings, 2)
        self.check(table, 3, sayings, 3)
        self.check(table, 3, sayings, 7)
        self.check(table, 3, [("holds", hand, card) for card in range(4) for hand in range(3)], 5)
        self.check(table, 3, [("holds", hand, card) for card in range(4) for hand in range(3)], 60)

    def test_sixty_turns(self):
        table = Table(3, [1, 1])
        quiet = [("sees", 0)] * 59 + [("holds", 0, 0)]
        self.assertEqual(len(self.check(table, 2, quiet, 60)), 60)
        self.assertEqual(len(self.check(table, 2, [("holds", 0, 0), ("holds", 0, 1)], 60)), 4)

    def test_the_truths_are_taken_as_the_table_stands_at_that_turn(self):
        table = Table(3, [1, 1])
        secret = ("and", ("holds", 0, 0), ("not", ("knows", 1, ("holds", 0, 0))))
        told = self.check(table, 2, [secret], 60)
        self.assertEqual(told, [[True, True, False, False, False, False], [False] * 6])

    def neighbours_table(self):
        """Five cards, two hands of one; it is openly said whether the two cards are neighbours."""
        table = Table(5, [1, 1])
        table.word((0, 1), bound("or", [("and", ("holds", 0, card), bound("or", beside(card))) for card in range(5)]))
        return table

    def test_not_being_able_to_tell_teaches(self):
        table = self.neighbours_table()
        sayings = [bound("or", [("knows", hand, ("holds", 1 - hand, card)) for card in range(5)]) for hand in range(2)]
        told = self.check(table, 2, sayings, 60)
        numbers = dict(((deal.index(0), deal.index(1)), number) for number, deal in enumerate(table.deals()))
        # The hands' cards, and the turns at which the hand whose turn it is can tell the other's.
        for held, turns in (((0, 1), [0, 1, 2, 3]), ((2, 1), [1, 3]), ((2, 3), [1, 3]), ((4, 3), [0, 1, 2, 3]),
                            ((1, 0), [1, 2, 3]), ((1, 2), [2]), ((3, 2), [2]), ((3, 4), [1, 2, 3]), ((0, 4), [])):
            self.assertEqual([turn for turn in range(4) if told[turn][numbers[held]]], turns, held)
        firsts = first_turns(len(numbers), told)
        self.assertEqual([firsts[numbers[held]] for held in ((0, 1), (2, 1), (1, 2), (0, 4))], [0, 1, 2, None])

    def test_behind_shows_that_one_hand_alone_learned(self):
        table = Table(4, [1, 1, 1])
        table.show(1, 2, [2])
        table.show(2, 1, [1, 2])
        table.show(0, 1, [3, 1])
        sayings = [("or", ("sees", 0), ("sees", 1)), ("holds", 3, 3)]
        self.assertGreater(len(self.check(table, 3, sayings, 60)), 5)
        self.check(table, 3, [("sees", 0), ("sees", 1), ("sees", 2)], 60)
        self.check(table, 3, [("or", ("knows", 1, ("holds", 0, 3)), ("sees", 2)), ("not", ("sees", 1))], 60)

    def test_behind_deeds_of_which_the_others_know_nothing(self):
        chance = random.Random(18)
        lengths = []
        for cards, sizes in [(0, [0]), (1, [0, 1]), (3, [1, 1]), (3, [1, 1, 1]), (4, [2, 1]), (4, [0, 1, 2])] * 8:
            hands = len(sizes)
            table = Table(cards, sizes)
            for _ in range(chance.randint(0, 2)):
                table.word((chance.randrange(hands),), chance_saying(chance, cards, hands, 1))
            sayings = [chance_saying(chance, cards, hands, chance.randint(0, 2)) for _ in range(chance.randint(1, 5))]
            lengths.append(len(self.check(table, hands, sayings, chance.choice((1, 2, 3, 5, 9, 14)))))
        self.assertGreater(len(set(lengths)), 5)

    def test_five_hands(self):
        self.check(Table(5, [1, 0, 1, 0, 2]), 5, [("holds", 4, 0), ("sees", 1), ("sees", 3)], 60)

    def test_all_hands_learn(self):
        table = Table(4, [1, 1, 1])
        by_hand = table.again()
        sayings = [("holds", 0, 0), ("knows", 1, ("holds", 2, 2)), ("sees", 0)]
        told = play(table, sayings, 60)
        self.assertEqual(told, [by_hand.word((0, 1, 2), sayings[turn % 3]) for turn in range(len(told))])

    def test_the_largest(self):
        table = Table(12, [1, 3])
        deals = table.deals()
        told = play(table, [("holds", 0, 0), ("sees", 0)], 60)
        self.assertEqual(told, [[deal[0] == 0 for deal in deals], [False] * 1980] + [[deal[0] == 0 for deal in deals]])

    def test_what_is_told_is_the_askers_own(self):
        table = Table(3, [1, 1])
        sayings = [("holds", 0, 0), ("sees", 0)]
        told = play(table, sayings, 60)
        kept = [list(truths) for truths in told]
        for truths in told:
            truths.reverse()
            truths.append("more")
        told.pop()
        self.assertEqual(play(table, sayings, 60), kept)
        self.assertEqual(table.view(0), first_view(deals_of(3, [1, 1]), 0))
        again = play(table, sayings, 60)
        table.word((0, 1), ("holds", 1, 1))
        self.assertEqual(again, kept)

    def test_the_table_goes_on_as_if_nothing_had_been(self):
        table = Table(3, [1, 1])
        play(table, [("holds", 0, 0), ("holds", 1, 0)], 60)
        values = table.word((1,), ("holds", 0, 0))
        self.assertEqual(table.view(1), split(first_view(table.deals(), 1), values))
        self.assertEqual(table.saw(1, 0), [(1,), True])
        self.assertEqual(table.saw(0, 0), [(0,)])


class FirstTurnsTest(unittest.TestCase):
    def check(self, many, answers, expected):
        told = called_safely(self, first_turns, many, answers)
        self.assertIs(type(told), list)
        self.assertEqual(told, expected)
        self.assertTrue(all(turn is None or type(turn) is int for turn in told))

    def test_no_turns(self):
        self.check(0, [], [])
        self.check(1, [], [None])
        self.check(4, [], [None] * 4)

    def test_no_deals(self):
        self.check(0, [[]], [])
        self.check(0, [[], [], []], [])

    def test_turns_of_no_true(self):
        self.check(3, [[False] * 3], [None] * 3)
        self.check(3, [[False] * 3] * 60, [None] * 3)
        self.check(2, [[False] * 2, [False] * 2, [False, True]], [None, 2])

    def test_the_first_of_several(self):
        self.check(4, [[False, True, False, False], [True, True, False, False], [True, False, True, False]], [1, 0, 2, None])
        self.check(2, [[True, True], [False, False], [True, True]], [0, 0])
        self.check(1, [[False]] * 59 + [[True]], [59])

    def test_any_answers(self):
        chance = random.Random(19)
        for _ in range(200):
            many = chance.randint(0, 8)
            often = chance.choice((0.1, 0.5))
            answers = [[chance.random() < often for _ in range(many)] for _ in range(chance.randint(0, 10))]
            columns = [[truths[deal] for truths in answers] for deal in range(many)]
            self.check(many, answers, [column.index(True) if True in column else None for column in columns])

    def test_of_a_play(self):
        table = Table(3, [1, 1])
        self.check(6, play(table, [("holds", 0, 0), ("holds", 1, 0), ("holds", 2, 0)], 60), [0, 0, 1, 1, 2, 2])
        self.check(6, play(table, [("sees", 0), ("sees", 1)], 60), [None] * 6)

    def test_two_thousand_deals(self):
        self.check(2000, [[deal % 60 == turn for deal in range(2000)] for turn in range(60)], [deal % 60 for deal in range(2000)])

    def test_what_is_told_is_the_askers_own(self):
        answers = [[False, True], [True, True]]
        told = first_turns(2, answers)
        told.append(7)
        told[0] = None
        self.check(2, answers, [1, 0])


if __name__ == "__main__":
    unittest.main()
