"""Points 15, 16 and 17, and points 2, 3 and 11 as far as they speak of tables."""

import itertools
import random
import unittest

from knowcards.errors import NoHand, NoPack, NoSaying, TooMany
from knowcards.packs import cards_of, deals_of
from knowcards.sayings import of_cards_alone
from knowcards.tables import Table
from knowcards.truths import truths_of
from knowcards.views import first_view, split
from tests.things import (LARGEST, arguments, called_safely, chance_cards, chance_deed, chance_hands, chance_saying,
                          deny, done, hands_of, nested, not_whole, standing, strange_things, true_at, view_of)

PACKS = [
    (0, [0]), (0, [0, 0, 0]), (1, [0]), (1, [1]), (1, [0, 1]), (3, [1, 1]), (3, [1, 1, 1]), (3, [0, 2]), (4, [2, 1]),
    (4, [0, 0]), (4, [2, 2]), (4, [1, 0, 1]), (5, [1, 1, 1, 1, 1]), (5, [1, 0, 1, 0, 2]), (12, [12]), (12, [0]),
]
SMALL = [(0, [0, 0]), (1, [0, 1]), (3, [1, 1]), (3, [1, 1, 1]), (4, [2, 1]), (4, [0, 1, 2]), (4, [0, 0])]


class Memory:
    """What each hand saw at each deal, kept one by one; all else is found from that, by the document's words."""

    def __init__(self, cards, sizes):
        self.cards = cards
        self.hands = len(sizes)
        self.deals = deals_of(cards, sizes)
        self.seen = [[[cards_of(deal, hand)] for deal in self.deals] for hand in range(self.hands)]

    def view(self, hand):
        return view_of(self.seen[hand])

    def truths(self, saying):
        views = [self.view(hand) for hand in range(self.hands)]
        return [true_at(self.deals, views, saying, deal) for deal in range(len(self.deals))]

    def note(self, hands, values):
        for hand in hands:
            for seen, value in zip(self.seen[hand], values):
                seen.append(value)
        return values

    def word(self, hands, saying):
        return self.note(hands, self.truths(saying))

    def show(self, hand, holder, some):
        return self.note((hand,), [min(set(some) & set(cards_of(deal, holder)), default=None) for deal in self.deals])


class TableCase(unittest.TestCase):
    def check_list(self, told, expected):
        self.assertIs(type(told), list)
        self.assertEqual(told, expected)
        self.assertEqual([type(one) for one in told], [type(one) for one in expected])

    def check_changes_nothing(self, refusal, table, call, *handed):
        before = standing(table)
        with self.assertRaises(refusal) as taken:
            called_safely(self, call, *handed)
        self.assertIs(type(taken.exception), refusal)
        self.assertEqual(standing(table), before)

    def busy_table(self):
        """A table of four cards and three hands at which some was said and shown."""
        table = Table(4, [1, 1, 1])
        table.word((0, 2), ("knows", 1, ("not", ("holds", 3, 3))))
        table.show(1, 3, [2, 0])
        table.word((0, 1, 2), ("sees", 1))
        return table


class MakeTest(TableCase):
    def test_arguments(self):
        self.assertEqual(arguments(Table), ["cards", "sizes"])
        for name, handed in (("deals", []), ("view", ["hand"]), ("word", ["hands", "S"]),
                             ("show", ["hand", "holder", "some"]), ("truths", ["S"]), ("saw", ["hand", "deal"]),
                             ("again", [])):
            self.assertEqual(arguments(getattr(Table(3, [1, 1]), name)), handed, name)

    def test_ahead_of_any_deed(self):
        for cards, sizes in PACKS:
            table = called_safely(self, Table, cards, sizes)
            deals = deals_of(cards, sizes)
            self.check_list(table.deals(), deals)
            for hand in range(len(sizes)):
                self.check_list(table.view(hand), first_view(deals, hand))
                for number, deal in enumerate(deals):
                    self.check_list(table.saw(hand, number), [cards_of(deal, hand)])

    def test_the_largest(self):
        table = Table(12, [1, 3])
        self.assertEqual(len(table.deals()), 1980)
        self.assertEqual([len(set(table.view(hand))) for hand in range(2)], [12, 220])
        values = table.word((0,), ("holds", 1, 11))
        self.assertEqual(values, [deal[11] == 1 for deal in table.deals()])
        self.assertEqual(table.view(0), split(first_view(table.deals(), 0), values))

    def test_no_pack(self):
        for thing in not_whole() + [-1, 13, LARGEST, -LARGEST]:
            with self.assertRaises(NoPack):
                called_safely(self, Table, thing, [1, 1])
        for thing in strange_things() + [[1] * 6, [4], [2, 2], [-1], [True], [1, True], ["1"], [None], (1, 1), [[1]]]:
            if thing != [0]:
                with self.assertRaises(NoPack):
                    called_safely(self, Table, 3, thing)

    def test_too_many(self):
        for cards, sizes in ((12, [2, 2]), (12, [3, 3, 3, 3]), (12, [2, 2, 2, 2, 2]), (7, [1, 1, 1, 1, 1])):
            with self.assertRaises(TooMany):
                called_safely(self, Table, cards, sizes)


class WordTest(TableCase):
    """Three cards, two hands of one, one in the pile."""

    def setUp(self):
        self.table = Table(3, [1, 1])

    def test_those_who_learn_and_those_who_do_not(self):
        self.check_list(self.table.word((1,), ("holds", 0, 0)), [True, True, False, False, False, False])
        self.check_list(self.table.view(0), [0, 0, 2, 3, 2, 3])
        self.check_list(self.table.view(1), [0, 1, 2, 2, 4, 5])
        self.check_list(self.table.word((0, 1), ("holds", 2, 2)), [True, False, True, False, False, False])
        self.check_list(self.table.view(0), [0, 1, 2, 3, 4, 3])
        self.check_list(self.table.view(1), [0, 1, 2, 3, 4, 5])

    def test_no_hands_learn_nothing(self):
        before = standing(self.table)
        self.check_list(self.table.word((), ("holds", 0, 0)), [True, True, False, False, False, False])
        self.check_list(self.table.word((), ("knows", 0, ("holds", 1, 1))), [False] * 6)
        self.assertEqual(standing(self.table), before)

    def test_each_of_the_eight_words(self):
        holds = ("holds", 0, 0)
        for saying, where in (
                (holds, [0, 1]), (("not", holds), [2, 3, 4, 5]), (("and", holds, ("holds", 1, 1)), [0]),
                (("or", holds, ("holds", 1, 1)), [0, 1, 5]), (("knows", 1, ("not", holds)), [2, 3]),
                (("all", (0, 1), ("not", ("and", holds, ("holds", 1, 1)))), [2, 3, 4]),
                (("common", (0,), holds), [0, 1]), (("sees", 1), [])):
            table = Table(3, [1, 1])
            expected = [deal in where for deal in range(6)]
            self.check_list(table.truths(saying), expected)
            self.check_list(called_safely(self, table.word, (0, 1), saying), expected)
            for hand in range(2):
                self.check_list(table.view(hand), split(first_view(table.deals(), hand), expected))

    def test_the_value_is_taken_ahead_of_the_deed(self):
        holds = ("holds", 0, 0)
        secret = ("and", holds, ("not", ("knows", 1, holds)))
        self.check_list(self.table.word((0, 1), secret), [True, True, False, False, False, False])
        self.check_list(self.table.truths(secret), [False] * 6)
        self.check_list(self.table.truths(("common", (0, 1), holds)), [True, True, False, False, False, False])
        self.check_list(self.table.word((0, 1), secret), [False] * 6)

    def test_each_learns_by_the_same_value_whoever_learns_first(self):
        # Hand 0 learns ahead of hand 1, but what both learn is what held ahead of the deed.
        saying = ("sees", 0)
        self.table.show(0, 1, [0])
        before = self.table.truths(saying)
        views = [self.table.view(hand) for hand in range(2)]
        self.check_list(self.table.word((0, 1), saying), before)
        for hand in range(2):
            self.check_list(self.table.view(hand), split(views[hand], before))

    def test_a_word_of_a_word(self):
        self.table.word((1,), ("holds", 2, 2))
        self.check_list(self.table.word((0,), ("sees", 1)), [True, False, True, True, False, True])
        self.check_list(self.table.view(0), [0, 1, 2, 3, 4, 3])


class ShowTest(TableCase):
    def check_show(self, cards, sizes, hand, holder, some):
        table = Table(cards, sizes)
        firsts = [table.view(one) for one in range(len(sizes))]
        told = called_safely(self, table.show, hand, holder, some)
        held = [cards_of(deal, holder) for deal in table.deals()]
        self.check_list(told, [min(set(some) & set(own), default=None) for own in held])
        firsts[hand] = split(firsts[hand], told)
        for one, view in enumerate(firsts):
            self.check_list(table.view(one), view)

    def test_the_least_that_is_held(self):
        table = Table(3, [1, 1])
        self.check_list(table.show(0, 1, [1, 2]), [1, 2, None, None, 2, 1])
        self.check_list(table.view(0), [0, 1, 2, 3, 4, 5])
        self.check_list(table.view(1), [0, 1, 2, 2, 1, 0])
        self.check_list(Table(4, [2, 2]).show(0, 1, [3, 2]), [2, 3, 2, 3, 2, None])

    def test_the_pile(self):
        self.check_list(Table(3, [1, 1]).show(1, 2, [2]), [2, None, 2, None, None, None])
        self.check_list(Table(3, [1, 1, 1]).show(1, 3, [0, 1, 2]), [None] * 6)

    def test_none_of_them(self):
        for holder in range(3):
            self.check_list(Table(3, [1, 1]).show(0, holder, []), [None] * 6)

    def test_any_order_and_some_twice(self):
        for some in itertools.product(range(3), repeat=3):
            for holder in range(3):
                self.check_show(3, [1, 1], 0, holder, list(some))
        self.check_show(4, [2, 1], 1, 0, [3, 0, 3, 1, 0])
        self.check_show(4, [2, 1], 1, 0, [3, 2, 1, 0])
        self.check_show(4, [2, 1], 1, 2, [2] * 2000)

    def test_ones_own_cards_teach_nothing(self):
        table = Table(4, [2, 1])
        view = table.view(0)
        self.check_show(4, [2, 1], 0, 0, [1, 3])
        table.show(0, 0, [1, 3])
        self.check_list(table.view(0), view)

    def test_each_pack(self):
        for cards, sizes in PACKS:
            for hand in range(len(sizes)):
                for holder in range(len(sizes) + 1):
                    self.check_show(cards, sizes, hand, holder, list(range(cards))[::-2])


class RefusalTest(TableCase):
    def not_hands(self):
        """What is no tuple of hands of three."""
        return [thing for thing in strange_things() if thing not in ((), (0,))] + [
            [0], [0, 1], [], (1, 0), (2, 1, 0), (0, 0), (0, 1, 1), (True,), (False,), (0, True), ("0",), (0, "1"),
            (None,), (3,), (0, 3), (-1,), (-1, 0), (LARGEST,), ((0,),), ([0],), ({},), (0, 1, 2, 3), {0: True}, "0,1"]

    def not_numbers(self, bound):
        return [thing for thing in strange_things() if not (type(thing) is int and 0 <= thing < bound)] + [bound]

    def not_cards(self):
        """What is no list of cards of four."""
        return [thing for thing in strange_things() if thing not in ([], [0])] + [
            (0, 1), (0,), [4], [0, 4], [-1], [True], [0, False], [1, None], ["0"], [[0]], [(0,)], [{}], [LARGEST], "0", {0: 1},
            [0] * 1999 + [4]]

    def not_sayings(self):
        """What is no saying for four cards and three hands."""
        return strange_things() + [
            ["holds", 0, 0], ("holds", 4, 0), ("holds", 0, 4), ("holds", 0), ("holds", 0, 0, 0), ("holds", True, 0),
            ("holds", 0, "0"), ("knows", 3, ("sees", 0)), ("knows", 0, ["sees", 0]), ("all", [0], ("sees", 0)),
            ("all", (1, 0), ("sees", 0)), ("common", (3,), ("sees", 0)), ("common", 0, ("sees", 0)), ("sees", 3),
            ("not", None), ("says", 0), ("and", ("sees", 0)), nested(deny, ("sees", 0), 30), "sees 0"]

    def test_view(self):
        table = self.busy_table()
        for thing in self.not_numbers(3):
            self.check_changes_nothing(NoHand, table, table.view, thing)

    def test_word_to_no_hands(self):
        table = self.busy_table()
        for thing in self.not_hands():
            self.check_changes_nothing(NoHand, table, table.word, thing, ("sees", 0))

    def test_word_of_no_saying(self):
        table = self.busy_table()
        for thing in self.not_sayings():
            self.check_changes_nothing(NoSaying, table, table.word, (0, 2), thing)
            self.check_changes_nothing(NoSaying, table, table.word, (), thing)

    def test_no_hands_come_ahead_of_no_saying(self):
        table = self.busy_table()
        for thing in self.not_hands():
            self.check_changes_nothing(NoHand, table, table.word, thing, ("sees", 3))
        for thing in self.not_sayings():
            self.check_changes_nothing(NoHand, table, table.word, [0, 1], thing)

    def test_show(self):
        table = self.busy_table()
        for thing in self.not_numbers(3):
            self.check_changes_nothing(NoHand, table, table.show, thing, 0, [0])
        for thing in self.not_numbers(4):
            self.check_changes_nothing(NoHand, table, table.show, 0, thing, [0])
        for thing in self.not_cards():
            self.check_changes_nothing(NoHand, table, table.show, 0, 1, thing)

    def test_truths(self):
        table = self.busy_table()
        for thing in self.not_sayings():
            self.check_changes_nothing(NoSaying, table, table.truths, thing)

    def test_saw(self):
        table = self.busy_table()
        for thing in self.not_numbers(3):
            self.check_changes_nothing(NoHand, table, table.saw, thing, 0)
        for thing in self.not_numbers(24):
            self.check_changes_nothing(NoHand, table, table.saw, 0, thing)
            self.check_changes_nothing(NoHand, table, table.saw, None, thing)

    def test_a_pack_of_no_cards(self):
        table = Table(0, [0])
        self.check_list(table.show(0, 1, []), [None])
        self.check_changes_nothing(NoHand, table, table.show, 0, 1, [0])
        self.check_changes_nothing(NoSaying, table, table.word, (0,), ("holds", 0, 0))
        self.check_changes_nothing(NoHand, table, table.saw, 0, 1)
        self.check_list(table.word((0,), ("sees", 0)), [True])
        self.check_list(table.saw(0, 0), [(), None, True])

    def test_the_last_that_are_taken(self):
        table = self.busy_table()
        table.view(2)
        table.saw(2, 23)
        table.show(2, 3, [3])
        table.word((0, 1, 2), ("holds", 3, 3))
        table.word((2,), nested(deny, ("sees", 2), 29))


class SawTest(TableCase):
    def check_stands(self, table, memory):
        many = range(len(memory.deals))
        for hand in range(memory.hands):
            view = memory.view(hand)
            self.check_list(table.view(hand), view)
            seen = [table.saw(hand, deal) for deal in many]
            for deal in many:
                self.check_list(seen[deal], memory.seen[hand][deal])
            alike = [[view[one] == view[other] for other in many] for one in many]
            self.assertEqual([[seen[one] == seen[other] for other in many] for one in many], alike)

    def test_cards_then_values_in_their_order(self):
        table = Table(3, [1, 1])
        table.word((0, 1), ("holds", 0, 0))
        table.show(1, 2, [2, 1])
        table.word((0,), ("sees", 1))
        table.word((), ("sees", 0))
        table.show(0, 0, [0])
        self.check_list(table.saw(0, 0), [(0,), True, True, 0])
        self.check_list(table.saw(1, 0), [(1,), True, 2])
        self.check_list(table.saw(0, 4), [(1,), False, True, None])
        self.check_list(table.saw(1, 4), [(2,), False, None])

    def test_cards_are_a_rising_tuple(self):
        table = Table(5, [3, 0, 1])
        for number, deal in enumerate(table.deals()):
            self.check_list(table.saw(0, number), [tuple([card for card in range(5) if deal[card] == 0])])
            self.check_list(table.saw(1, number), [()])

    def test_words_and_shows_by_turns(self):
        chance = random.Random(16)
        for cards, sizes in SMALL * 6:
            table = Table(cards, sizes)
            memory = Memory(cards, sizes)
            for _ in range(6):
                deed = chance_deed(chance, cards, len(sizes), 2)
                told = called_safely(self, getattr(table, deed[0]), *deed[1:])
                self.check_list(told, done(memory, deed))
                self.check_stands(table, memory)
            for _ in range(3):
                saying = chance_saying(chance, cards, len(sizes), 2)
                self.check_list(called_safely(self, table.truths, saying), memory.truths(saying))

    def test_truths_change_nothing(self):
        table = self.busy_table()
        before = standing(table)
        for saying in (("sees", 0), ("common", (0, 1, 2), ("holds", 3, 0)), ("knows", 2, ("not", ("holds", 0, 0)))):
            views = [table.view(hand) for hand in range(3)]
            self.check_list(table.truths(saying), truths_of(table.deals(), views, saying))
        self.assertEqual(standing(table), before)


class AgainTest(TableCase):
    def test_just_as_this_one_stands(self):
        chance = random.Random(15)
        for cards, sizes in SMALL:
            table = Table(cards, sizes)
            for _ in range(4):
                other = table.again()
                self.assertIsInstance(other, Table)
                self.assertIsNot(other, table)
                self.assertEqual(standing(other), standing(table))
                done(table, chance_deed(chance, cards, len(sizes), 1))

    def test_deeds_at_the_one_change_nothing_at_the_other(self):
        table = self.busy_table()
        other = table.again()
        before = standing(table)
        other.word((0, 1, 2), ("holds", 0, 0))
        other.show(2, 0, [1, 2, 3])
        self.assertEqual(standing(table), before)
        self.assertNotEqual(standing(other), before)
        after = standing(other)
        table.show(0, 1, [0, 1, 2, 3])
        table.word((1, 2), ("sees", 0))
        self.assertEqual(standing(other), after)

    def test_both_go_on_alike(self):
        chance = random.Random(151)
        table = self.busy_table()
        other = table.again().again()
        for _ in range(8):
            deed = chance_deed(chance, 4, 3, 2)
            self.check_list(done(other, deed), done(table, deed))
            self.assertEqual(standing(other), standing(table))


class OwnListsTest(TableCase):
    def spoil(self, told):
        told[0] = "other"
        told.reverse()
        told.append("more")

    def test_told_lists_are_the_askers_own(self):
        table = self.busy_table()
        tells = [table.deals, lambda: table.view(1), lambda: table.truths(("sees", 1)), lambda: table.saw(2, 5),
                 lambda: table.truths(("holds", 0, 0))]
        before = standing(table)
        for tell in tells:
            told = tell()
            kept = list(told)
            self.spoil(told)
            self.assertEqual(tell(), kept)
            self.assertEqual(standing(table), before)

    def test_the_values_of_a_deed_too(self):
        for deed in (("word", (0, 1), ("holds", 0, 0)), ("show", 0, 3, [1, 2]), ("word", (), ("sees", 0)),
                     ("word", (0, 1, 2), ("all", (), ("sees", 0)))):
            table = self.busy_table()
            plain = table.again()
            done(plain, deed)
            told = done(table, deed)
            other = table.again()
            self.spoil(told)
            self.assertEqual(standing(table), standing(plain))
            self.assertEqual(standing(other), standing(plain))

    def test_what_was_told_stays_as_it_was(self):
        table = self.busy_table()
        told = [table.deals(), table.view(0), table.view(1), table.view(2), table.truths(("sees", 1)), table.saw(0, 3),
                table.word((0, 1, 2), ("holds", 0, 0)), table.show(1, 0, [2, 3])]
        kept = [list(one) for one in told]
        table.word((0, 1, 2), ("holds", 1, 1))
        table.show(0, 1, [0, 1, 2, 3])
        table.show(2, 1, [0, 1, 2, 3])
        self.assertEqual(told, kept)

    def test_what_was_handed_in_may_change(self):
        sizes = [1, 1]
        table = Table(3, sizes)
        sizes.append(1)
        sizes[0] = 3
        some = [2, 1]
        table.show(0, 1, some)
        some.clear()
        plain = Table(3, [1, 1])
        plain.show(0, 1, [1, 2])
        self.assertEqual(standing(table), standing(plain))
        self.assertEqual(standing(table.again()), standing(plain))
        self.assertEqual(hands_of(table), 2)


class OpenWordTest(TableCase):
    """Point 17."""

    def alone(self, chance, cards, hands, count):
        """Sayings of cards alone."""
        found = []
        while len(found) < count:
            saying = chance_saying(chance, cards, hands, chance.randint(0, 3))
            if of_cards_alone(saying):
                found.append(saying)
        return found

    def test_it_or_its_not_is_common(self):
        chance = random.Random(17)
        for cards, sizes in ((1, [0, 1]), (3, [1, 1]), (4, [2, 1]), (4, [1, 1, 1]), (5, [1, 0, 2])):
            everyone = tuple(range(len(sizes)))
            table = Table(cards, sizes)
            for saying in self.alone(chance, cards, len(sizes), 4):
                told = table.word(everyone, saying)
                self.check_list(table.truths(("common", everyone, saying)), told)
                self.check_list(table.truths(("common", everyone, ("not", saying))), [not truth for truth in told])

    def test_not_so_where_one_did_not_learn(self):
        table = Table(3, [1, 1, 1])
        told = table.word((0, 1), ("holds", 0, 0))
        self.check_list(table.truths(("common", (0, 1), ("holds", 0, 0))), told)
        self.check_list(table.truths(("common", (0, 1, 2), ("holds", 0, 0))), [False] * 6)

    def test_whatever_order(self):
        chance = random.Random(171)
        for cards, sizes in ((3, [1, 1]), (4, [2, 1]), (4, [0, 1, 2])):
            hands = len(sizes)
            deeds = [("word", chance_hands(chance, hands), saying) for saying in self.alone(chance, cards, hands, 2)]
            deeds += [("show", chance.randrange(hands), chance.randint(0, hands), chance_cards(chance, cards))
                      for _ in range(2)]
            views = []
            for order in itertools.permutations(deeds):
                table = Table(cards, sizes)
                for deed in order:
                    done(table, deed)
                views.append([table.view(hand) for hand in range(hands)])
            self.assertTrue(all(one == views[0] for one in views))

    def test_what_is_known_of_cards_alone_stays_known(self):
        chance = random.Random(11)
        for cards, sizes in ((3, [1, 1]), (4, [2, 1]), (4, [1, 1, 1])):
            hands = len(sizes)
            everyone = tuple(range(hands))
            told = [(word, who, saying) for saying in self.alone(chance, cards, hands, 8)
                    for word, who in (("knows", 0), ("knows", hands - 1), ("all", everyone), ("common", everyone))]
            table = Table(cards, sizes)
            before = [table.truths(saying) for saying in told]
            for _ in range(6):
                done(table, chance_deed(chance, cards, hands, 2))
                after = [table.truths(saying) for saying in told]
                for then, now in zip(before, after):
                    self.assertTrue(all(later for earlier, later in zip(then, now) if earlier))
                before = after


if __name__ == "__main__":
    unittest.main()
