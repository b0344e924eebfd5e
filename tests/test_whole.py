"""Points 1, 2 and 3 over all files together."""

import copy
import importlib
import itertools
import random
import unittest

from knowcards.asks import fewest, leaves
from knowcards.codes import by_sums, fails, is_code
from knowcards.desk import Desk
from knowcards.fewest import too_few, tree_of
from knowcards.liars import how_sure, liars_of, may_be
from knowcards.packs import cards_of, deals_of, how_many, is_pack
from knowcards.plays import first_turns, play
from knowcards.reasons import common_why, knows_why, steps_from
from knowcards.sayings import is_saying, of_cards_alone, words_in
from knowcards.tables import Table
from knowcards.texts import read_saying, show_saying
from knowcards.truths import truths_of
from knowcards.views import first_view, joined, look_alike, split
from tests.things import (arguments, by_figures, called_safely, chance_asks, chance_deed, chance_hands, chance_saying, done,
                          is_it, standing)

INTERFACE = {
    "packs": {"is_pack": "cards sizes", "how_many": "cards sizes", "deals_of": "cards sizes", "cards_of": "deal who"},
    "sayings": {"is_saying": "cards hands thing", "words_in": "S", "of_cards_alone": "S"},
    "texts": {"show_saying": "hands S", "read_saying": "cards hands text"},
    "views": {"first_view": "deals hand", "split": "view values", "look_alike": "view one other", "joined": "many views"},
    "truths": {"truths_of": "deals views S"},
    "reasons": {"knows_why": "view truths deal", "steps_from": "many views deal", "common_why": "views truths deal"},
    "tables": {"Table": "cards sizes"},
    "plays": {"play": "table sayings turns", "first_turns": "many answers"},
    "asks": {"leaves": "asks some state", "fewest": "asks goal some"},
    "fewest": {"tree_of": "asks goal some", "too_few": "asks goal some k"},
    "codes": {"is_code": "cards sizes hand words", "fails": "cards sizes words a b e", "by_sums": "cards sizes hand m"},
    "liars": {"liars_of": "many claims", "may_be": "many claims most", "how_sure": "many claims truths"},
    "desk": {"Desk": ""},
}

PACKS = [(3, [1, 1]), (3, [1, 1, 1]), (4, [2, 1]), (4, [1, 1, 1]), (4, [0, 1, 2]), (1, [0, 1]), (5, [2, 2])]

SAYING = ("knows", 1, ("or", ("holds", 0, 0), ("all", (0, 1), ("not", ("sees", 0)))))


def examples():
    """A call of each function of the interface, but of play, to which a table is handed."""
    deals = deals_of(4, [1, 1])
    views = [first_view(deals, 0), first_view(deals, 1)]
    truths = truths_of(deals, views, ("not", ("holds", 0, 0)))
    asks = is_it(range(4), 6)
    claims = [(0, [True, False, True]), (1, [False, False, True]), (0, [False, True, True])]
    return [
        (is_pack, [3, [1, 1]]), (how_many, [3, [1, 1]]), (deals_of, [3, [1, 1]]), (deals_of, [0, [0]]),
        (cards_of, [(0, 1, 2), 1]), (is_saying, [4, 2, SAYING]), (is_saying, [4, 2, ["sees", [0]]]), (words_in, [SAYING]),
        (of_cards_alone, [SAYING]), (show_saying, [2, SAYING]), (read_saying, [4, 2, show_saying(2, SAYING)]),
        (first_view, [deals, 1]), (split, [views[0], truths]), (split, [views[0], [None, 1, 2] * 4]),
        (look_alike, [views[0], 0, 1]), (joined, [12, views]), (joined, [3, []]), (truths_of, [deals, views, SAYING]),
        (knows_why, [views[1], truths, 0]), (knows_why, [views[1], [True] * 12, 5]), (steps_from, [12, views, 3]),
        (common_why, [views, truths, 5]), (common_why, [views, [True] * 12, 5]), (common_why, [[], truths, 5]),
        (first_turns, [12, [truths, truths]]), (leaves, [asks, [0, 2, 3, 5], (None, None, False, None)]),
        (leaves, [[], [0, 2], ()]), (fewest, [asks, [0, 1, 2, 3, 4, 4], [0, 1, 2, 5]]),
        (tree_of, [asks, [0, 1, 2, 3, 4, 4], [0, 1, 2, 5]]), (too_few, [asks, [0, 1, 2, 3, 4, 4], [0, 1, 2, 5], 2]),
        (too_few, [asks, [0, 1, 2, 3, 4, 5], [0, 1, 4, 5], 6]), (is_code, [3, [1, 1], 0, [[(0,), (2,)], [], [(1,)]]]),
        (fails, [4, [1, 1, 1], [[(0,), (2,)], [(1,), (3,)]], 0, 1, 2]), (by_sums, [4, [2, 1], 0, 3]),
        (liars_of, [3, claims]), (may_be, [3, claims, 1]), (how_sure, [3, claims, [True, False, False]]),
    ]


def spoil(thing):
    """Changes every list in it, however deep it lies."""
    if isinstance(thing, (list, tuple)):
        for part in thing:
            spoil(part)
    if isinstance(thing, list):
        thing.reverse()
        thing.append("spoilt")


def with_commas(numbers):
    return ",".join([str(number) for number in numbers]) or "-"


def row_of(deed, hands):
    """The row by which a desk is told a deed."""
    if deed[0] == "word":
        return f"word {with_commas(deed[1])} {show_saying(hands, deed[2])}"
    holder = "pile" if deed[2] == hands else deed[2]
    return " ".join([f"show {deed[1]} {holder}"] + [str(card) for card in deed[3]])


class InterfaceTest(unittest.TestCase):
    def test_every_name_is_there(self):
        for module, names in INTERFACE.items():
            for name, handed in names.items():
                found = getattr(importlib.import_module(f"knowcards.{module}"), name)
                self.assertEqual(arguments(found), handed.split(), name)

    def test_every_refusal_is_there(self):
        errors = importlib.import_module("knowcards.errors")
        kinds = [getattr(errors, name) for name in ("NoPack", "TooMany", "NoSaying", "NoHand", "NoRow")]
        for kind in kinds:
            self.assertTrue(issubclass(kind, errors.CardError) and issubclass(kind, ValueError))
            self.assertEqual([other for other in kinds if issubclass(kind, other)], [kind])

    def test_every_function_has_an_example(self):
        shown = {function.__name__ for function, handed in examples()}
        named = {name for names in INTERFACE.values() for name in names}
        self.assertEqual(named - shown, {"Table", "Desk", "play"})


class OwnTest(unittest.TestCase):
    """Point 2."""

    def test_nothing_that_is_handed_in_is_changed(self):
        for function, handed in examples():
            first = called_safely(self, function, *handed)
            self.assertEqual(called_safely(self, function, *handed), first, function.__name__)

    def test_told_lists_changed_behind_the_call_change_nothing(self):
        for function, handed in examples():
            before = copy.deepcopy(handed)
            told = function(*handed)
            kept = copy.deepcopy(told)
            spoil(told)
            self.assertEqual(handed, before, function.__name__)
            self.assertEqual(function(*handed), kept, function.__name__)

    def test_what_was_handed_in_changed_behind_the_call_changes_nothing(self):
        for function, shown in examples():
            # Some examples share their lists.
            handed = copy.deepcopy(shown)
            told = function(*handed)
            kept = copy.deepcopy(told)
            spoil(handed)
            self.assertEqual(told, kept, function.__name__)

    def test_no_list_stands_twice_in_what_is_told(self):
        for function, handed in examples():
            told = function(*handed)
            lists = [part for part in (told if isinstance(told, list) else []) if isinstance(part, list)]
            lists += [row[2] for row in told] if function is too_few else []
            self.assertEqual(len({id(part) for part in lists}), len(lists), function.__name__)

    def test_plays_and_tables(self):
        table = Table(4, [1, 1])
        table.word((0,), SAYING)
        before = standing(table)
        sayings = [SAYING, ("sees", 0), ("holds", 1, 2)]
        told = called_safely(self, lambda handed: play(table, handed, 9), sayings)
        kept = copy.deepcopy(told)
        spoil(told)
        self.assertEqual(standing(table), before)
        self.assertEqual(play(table, sayings, 9), kept)
        told = play(table, sayings, 9)
        spoil(sayings)
        table.word((0, 1), ("holds", 0, 0))
        self.assertEqual(told, kept)

    def test_things_told_by_one_are_handed_to_the_other(self):
        # What is told may be handed on and changed afterwards, and nobody minds.
        table = Table(4, [1, 1, 1])
        plain = Table(4, [1, 1, 1])
        words = by_sums(4, [1, 1, 1], 0, 2)
        self.assertIs(is_code(4, [1, 1, 1], 0, words), True)
        asks = [table.truths(("holds", 0, card)) for card in range(4)]
        goal = table.view(0)
        tree = tree_of(asks, goal, list(range(24)))
        claims = [(0, asks[0]), (1, asks[1])]
        sure = how_sure(24, claims, asks[2])
        for thing in (asks, goal, words):
            spoil(thing)
        self.assertEqual(standing(table), standing(plain))
        asks = [plain.truths(("holds", 0, card)) for card in range(4)]
        self.assertEqual(tree_of(asks, plain.view(0), list(range(24))), tree)
        self.assertEqual(how_sure(24, [(0, asks[0]), (1, asks[1])], asks[2]), sure)


class TableAndDeskTest(unittest.TestCase):
    """Point 3: words and shows by chance, told to a table and to a desk."""

    def setUp(self):
        self.chance = random.Random(3)

    def begin(self, cards, sizes):
        self.cards = cards
        self.hands = len(sizes)
        self.table = Table(cards, sizes)
        self.desk = Desk()
        many = self.desk.say(" ".join([f"deal {cards}"] + [str(size) for size in sizes]))
        self.many = len(self.table.deals())
        self.assertEqual(many, str(self.many))

    def tell(self, deed):
        values = done(self.table, deed)
        self.assertEqual(self.desk.say(row_of(deed, self.hands)), "ok")
        return values

    def check_views(self):
        for hand in range(self.hands):
            view = self.table.view(hand)
            seen = [self.table.saw(hand, deal) for deal in range(self.many)]
            rows = [self.desk.say(f"saw {hand} {deal}") for deal in range(self.many)]
            for one, other in itertools.product(range(self.many), repeat=2):
                self.assertIs(look_alike(view, one, other), seen[one] == seen[other])
                self.assertEqual(rows[one] == rows[other], seen[one] == seen[other])

    def check_known(self, saying):
        truths = self.table.truths(saying)
        text = show_saying(self.hands, saying)
        for hand in range(self.hands):
            known = self.table.truths(("knows", hand, saying))
            seen = [self.table.saw(hand, deal) for deal in range(self.many)]
            for deal in range(self.many):
                why = knows_why(self.table.view(hand), truths, deal)
                alike = [other for other in range(self.many) if seen[other] == seen[deal]]
                self.assertEqual(why[0] == "knows", known[deal])
                if why[0] == "knows":
                    self.assertEqual(why[1], alike)
                    self.assertTrue(all(truths[other] for other in why[1]))
                    shown = " ".join(["knows"] + [str(other) for other in why[1]])
                else:
                    self.assertIn(why[1], alike)
                    self.assertIs(truths[why[1]], False)
                    shown = f"not {why[1]}"
                self.assertEqual(self.desk.say(f"knows {hand} {deal} {text}"), shown)
                self.assertEqual(self.desk.say(f"true {deal} {text}"), "yes" if truths[deal] else "no")

    def check_common(self, saying, group):
        truths = self.table.truths(saying)
        common = self.table.truths(("common", group, saying))
        views = [self.table.view(hand) for hand in group]
        text = show_saying(self.hands, saying)
        for deal in range(self.many):
            why = common_why(views, truths, deal)
            self.assertEqual(why[0] == "common", common[deal])
            row = f"common {with_commas(group)} {deal} {text}"
            if why[0] == "common":
                self.check_closed(views, truths, deal, why[1])
                self.assertEqual(self.desk.say(row), " ".join(["common"] + [str(other) for other in why[1]]))
            else:
                self.check_road(views, truths, deal, why[1])
                self.assertEqual(self.desk.say(row), " ".join(["road"] + [f"{group[k]}:{other}" for k, other in why[1]]))

    def check_closed(self, views, truths, deal, deals):
        self.assertIn(deal, deals)
        self.assertTrue(all(truths[other] for other in deals))
        for view in views:
            marks = {view[other] for other in deals}
            self.assertEqual([other for other in range(self.many) if view[other] in marks and other not in deals], [])

    def check_road(self, views, truths, deal, steps):
        away = [step for step, truth in zip(steps_from(self.many, views, deal), truths) if step is not None and not truth]
        self.assertEqual(len(steps), min(away))
        for k, other in steps:
            self.assertEqual(views[k][other], views[k][deal])
            deal = other
        self.assertIs(truths[deal], False)

    def test_whatever_words_and_shows(self):
        for cards, sizes in PACKS:
            self.begin(cards, sizes)
            for _ in range(5):
                self.check_views()
                saying = chance_saying(self.chance, cards, self.hands, self.chance.randint(0, 2))
                self.check_known(saying)
                self.check_common(saying, chance_hands(self.chance, self.hands))
                self.tell(chance_deed(self.chance, cards, self.hands, 2))

    def test_known_once_stays_known(self):
        for cards, sizes in PACKS:
            self.begin(cards, sizes)
            known = []
            for _ in range(6):
                self.assertTrue(all(self.desk.say(row).startswith("knows ") for row in known))
                saying = chance_saying(self.chance, cards, self.hands, self.chance.randint(0, 2))
                if of_cards_alone(saying):
                    text = show_saying(self.hands, saying)
                    rows = [f"knows {hand} {deal} {text}" for hand in range(self.hands) for deal in range(self.many)]
                    known += [row for row in rows if self.desk.say(row).startswith("knows ")]
                self.tell(chance_deed(self.chance, cards, self.hands, 2))

    def test_the_cards(self):
        for cards, sizes in PACKS:
            self.begin(cards, sizes)
            for number, deal in enumerate(deals_of(cards, sizes)):
                for who in range(self.hands + 1):
                    shown = " ".join([str(card) for card in cards_of(deal, who)]) or "none"
                    self.assertEqual(self.desk.say(f"cards {number} {'pile' if who == self.hands else who}"), shown)

    def test_a_play_told_to_the_desk(self):
        for cards, sizes in PACKS:
            self.begin(cards, sizes)
            sayings = [chance_saying(self.chance, cards, self.hands, 1) for _ in range(2)]
            everyone = tuple(range(self.hands))
            answers = play(self.table, sayings, 4)
            for turn, truths in enumerate(answers):
                self.assertEqual(self.tell(("word", everyone, sayings[turn % 2])), truths)
            for deal, first in enumerate(first_turns(self.many, answers)):
                shown = self.desk.say(f"saw 0 {deal}").split(" ")[1:]
                self.assertEqual(shown.index("yes") if "yes" in shown else None, first)


class FewestTest(unittest.TestCase):
    """Point 3: a tree tells the goal, and the paper answers every way of asking less."""

    def walk(self, asks, goal, some, answers, state, left):
        """Whatever is asked next, the paper's answer leads on to deals of unlike goals."""
        self.assertGreater(len({goal[deal] for deal in leaves(asks, some, state)}), 1)
        for number in range(len(asks)):
            if left > 0 and state[number] is None:
                answer = answers[(state, left)][number]
                self.walk(asks, goal, some, answers, state[:number] + (answer,) + state[number + 1:], left - 1)

    def check(self, asks, goal, some):
        least = fewest(asks, goal, some)
        for k in range(6 if least is None else least):
            answers = dict(((state, left), told) for state, left, told in too_few(asks, goal, some, k))
            self.walk(asks, goal, some, answers, (None,) * len(asks), k)
        tree = tree_of(asks, goal, some)
        if least is None:
            self.assertIsNone(tree)
            return
        for deal in some:
            place = tree
            asked = 0
            while place[0] == "ask":
                place = place[2 if asks[place[1]][deal] else 3]
                asked += 1
            self.assertEqual(place, ("goal", goal[deal]))
            self.assertLessEqual(asked, least)

    def test_any_asks(self):
        chance = random.Random(31)
        for _ in range(60):
            many = chance.randint(1, 12)
            goal = [chance.randrange(chance.randint(1, 4)) for _ in range(many)]
            self.check(chance_asks(chance, many, 5), goal, sorted(chance.sample(range(many), chance.randint(1, many))))

    def test_six_asks(self):
        self.check(by_figures(6, 64), list(range(64)), list(range(64)))
        self.check(is_it(range(6), 8), list(range(8)), list(range(8)))


class SureTest(unittest.TestCase):
    """Point 3: what is told as sure holds whoever lies, and with one liar more there is a deal where it doesn't."""

    def deals_if(self, claims, many, lying):
        """The deals at which all that is claimed by others than these is true."""
        return [deal for deal in range(many) if all(truths[deal] for hand, truths in claims if hand not in lying)]

    def liars(self, hands, count):
        return itertools.combinations(range(hands), count)

    def test_whoever_lies(self):
        chance = random.Random(32)
        met = []
        for cards, sizes in PACKS * 6:
            hands = len(sizes)
            table = Table(cards, sizes)
            many = len(table.deals())
            claims = [(chance.randrange(hands), table.truths(chance_saying(chance, cards, hands, 2))) for _ in range(4)]
            truths = table.truths(chance_saying(chance, cards, hands, 1))
            told = how_sure(many, claims, truths)
            most = hands if told is None else told[0]
            for count in range(most + 1):
                for lying in self.liars(hands, count):
                    self.assertTrue(all(truths[deal] for deal in self.deals_if(claims, many, lying)))
            if told is not None:
                found = [self.deals_if(claims, many, lying) for lying in self.liars(hands, told[0] + 1)]
                self.assertTrue(any(told[1] in deals for deals in found))
                self.assertIs(truths[told[1]], False)
            met.append(told and told[0])
        for number in (None, -1, 0):
            self.assertIn(number, met)


if __name__ == "__main__":
    unittest.main()
