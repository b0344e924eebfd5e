"""What several tests need: things of strange kinds, sayings and where they are true, views, deeds at a table, asks,
and a check that a call changes nothing."""

import copy
import functools
import inspect

from knowcards.errors import NoHand
from knowcards.packs import cards_of

LARGEST = 10 ** 60 - 1

# What the tests of sayings are about, unless they say otherwise: four cards, three hands.
CARDS = 4
HANDS = 3
PILE = 3

HOLDS = ("holds", 0, 1)
SEES = ("sees", 2)


def nested(wrap, core, times):
    thing = core
    for _ in range(times):
        thing = wrap(thing)
    return thing


def in_list(thing):
    return [thing]


def in_tuple(thing):
    return (thing,)


def in_dict(thing):
    return {"not": thing}


def not_whole():
    """Things that are no whole numbers, as strange as point 2 lets them be."""
    return [
        None, True, False, "", "0", "3", "holds 0 0", "~" * 4000,
        [], (), {}, [0], (0,), {0: 0}, [[]], ((),), {"holds": []},
        [None] * 1999, (0,) * 1999, dict([(k, k) for k in range(999)]),
        nested(in_list, 0, 40), nested(in_tuple, 0, 40), nested(in_dict, 0, 40),
        nested(in_list, None, 39), nested(in_tuple, "holds", 39), nested(in_dict, True, 39),
    ]


def strange_things():
    """The same, with whole numbers among them."""
    return not_whole() + [0, 1, -1, 12, 13, LARGEST, -LARGEST]


def called_safely(case, function, *handed):
    """What the call answers; whether it answers or refuses, nothing handed in may be changed by it."""
    before = copy.deepcopy(handed)
    try:
        return function(*handed)
    finally:
        case.assertEqual(handed, before)


def deny(saying):
    return ("not", saying)


def both(saying):
    return ("and", saying, saying)


def chained(word, parts):
    """So many sayings bound into one by a word between each two."""
    saying = HOLDS
    for _ in range(parts - 1):
        saying = (word, HOLDS, saying)
    return saying


def one_of_each():
    """Each of the eight forms, with how many words it has and whether it is of cards alone."""
    return [
        (HOLDS, 1, True),
        (SEES, 1, False),
        (("not", HOLDS), 2, True),
        (("and", HOLDS, ("holds", PILE, 0)), 3, True),
        (("or", HOLDS, ("holds", 2, 3)), 3, True),
        (("knows", 1, HOLDS), 2, False),
        (("all", (0, 2), HOLDS), 2, False),
        (("common", (0, 1, 2), HOLDS), 2, False),
    ]


def built_of(saying, words, alone):
    """Each form that can hold another, round the one handed in."""
    return [
        (("not", saying), words + 1, alone),
        (("and", saying, HOLDS), words + 2, alone),
        (("and", HOLDS, saying), words + 2, alone),
        (("and", SEES, saying), words + 2, False),
        (("and", saying, saying), 2 * words + 1, alone),
        (("or", saying, HOLDS), words + 2, alone),
        (("or", saying, SEES), words + 2, False),
        (("or", HOLDS, saying), words + 2, alone),
        (("knows", 0, saying), words + 1, False),
        (("all", (), saying), words + 1, False),
        (("common", (1,), saying), words + 1, False),
    ]


def built_sayings():
    """Sayings of up to three layers built round one of each."""
    layer = one_of_each()
    every = list(layer)
    for _ in range(3):
        layer = [built for one in layer for built in built_of(*one)]
        every.extend(layer)
    return every


def view_of(marks):
    """The view in which those look alike that bear the same mark."""
    return [marks.index(mark) for mark in marks]


def chance_view(chance, many, marks):
    """Any view of so many things, with at most so many kinds of them."""
    return view_of([chance.randrange(marks) for _ in range(many)])


def chance_views(chance, many, count):
    return [chance_view(chance, many, chance.randint(1, many + 1)) for _ in range(count)]


def winding_views(many):
    """Two views by which the things make one long row: each looks alike to the next by the one or by the other."""
    return [view_of([thing // 2 for thing in range(many)]), view_of([(thing + 1) // 2 for thing in range(many)])]


def reached_from(views, thing):
    """All things to which a road leads, found by walking on until nothing comes anew."""
    found = {thing}
    while True:
        more = set()
        for view in views:
            marks = {view[one] for one in found}
            more |= {other for other, mark in enumerate(view) if mark in marks}
        if more <= found:
            return found
        found |= more


def true_at(deals, views, saying, deal):
    """Point 10 word by word, for one deal."""
    def inner(other):
        return true_at(deals, views, saying[-1], other)

    def knows(hand):
        return all(inner(other) for other in range(len(deals)) if views[hand][other] == views[hand][deal])

    word = saying[0]
    if word == "holds":
        return saying[2] in cards_of(deals[deal], saying[1])
    if word == "not":
        return not inner(deal)
    if word == "and":
        return true_at(deals, views, saying[1], deal) and inner(deal)
    if word == "or":
        return true_at(deals, views, saying[1], deal) or inner(deal)
    if word == "knows":
        return knows(saying[1])
    if word == "all":
        return all(knows(hand) for hand in saying[1])
    if word == "common":
        return all(inner(other) for other in reached_from([views[hand] for hand in saying[1]], deal))
    view = views[saying[1]]
    alike = [other for other in range(len(deals)) if view[other] == view[deal]]
    return len({cards_of(deals[other], len(views)) for other in alike}) == 1


def chance_saying(chance, cards, hands, layers):
    word = chance.choice(("holds", "sees") if layers == 0 else ("not", "and", "or", "knows", "all", "common"))
    if word == "holds" and cards > 0:
        return (word, chance.randint(0, hands), chance.randrange(cards))
    if word in ("holds", "sees"):
        return ("sees", chance.randrange(hands))
    inner = chance_saying(chance, cards, hands, layers - 1)
    if word == "not":
        return (word, inner)
    if word in ("and", "or"):
        return (word, chance_saying(chance, cards, hands, chance.randrange(layers)), inner)
    if word == "knows":
        return (word, chance.randrange(hands), inner)
    return (word, tuple(sorted(chance.sample(range(hands), chance.randint(0, hands)))), inner)


def chance_hands(chance, hands):
    return tuple(sorted(chance.sample(range(hands), chance.randint(0, hands))))


def chance_cards(chance, cards):
    return [chance.randrange(cards) for _ in range(chance.randint(0, 5))] if cards > 0 else []


def chance_deed(chance, cards, hands, layers):
    """A deed as the name of the method and what is handed to it."""
    if chance.random() < 0.5:
        return ("word", chance_hands(chance, hands), chance_saying(chance, cards, hands, chance.randint(0, layers)))
    return ("show", chance.randrange(hands), chance.randint(0, hands), chance_cards(chance, cards))


def done(table, deed):
    return getattr(table, deed[0])(*deed[1:])


def standing(table):
    """All that a table answers, but of the sayings only a few."""
    hands = range(hands_of(table))
    deals = table.deals()
    return (deals, [table.view(hand) for hand in hands],
            [table.saw(hand, deal) for hand in hands for deal in range(len(deals))],
            [table.truths(("all", tuple(hands), ("sees", hand))) for hand in hands],
            [table.truths(("knows", hand, ("sees", 0))) for hand in hands])


def hands_of(table):
    for hands in range(1, 6):
        try:
            table.view(hands)
        except NoHand:
            return hands


def tried_out(asks, goal, some):
    """The fewest asks by their words: whatever ask is tried next, for each number of asks that may be asked."""
    @functools.cache
    def enough(deals, k):
        if len({goal[deal] for deal in deals}) <= 1:
            return True
        return k > 0 and any(all(enough(frozenset(deal for deal in deals if ask[deal] is answer), k - 1)
                                 for answer in (True, False)) for ask in asks)

    for k in range(len(asks) + 1):
        if enough(frozenset(some), k):
            return k
    return None


def by_figures(figures, many):
    """Asks for so many deals: what is each figure of the deal's number, written with twos?"""
    return [[deal >> figure & 1 == 1 for deal in range(many)] for figure in range(figures)]


def is_it(asked, many):
    """Asks for so many deals: is it this one?"""
    return [[deal == one for deal in range(many)] for one in asked]


def chance_asks(chance, many, most):
    return [[chance.random() < 0.5 for _ in range(many)] for _ in range(chance.randint(0, most))]


def arguments(function):
    return list(inspect.signature(function).parameters)
