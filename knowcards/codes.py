"""Codes: words by which a hand tells openly of its cards, and for whom they tell too little or too much."""

from knowcards.kinds import is_whole
from knowcards.packs import cards_of, deals_of
from knowcards.views import first_view, split


def is_code(cards, sizes, hand, words):
    if not isinstance(words, list) or not all([is_list_of_tuples(word) for word in words]):
        return False
    said = []
    for word in words:
        said.extend(word)
    return sorted(said) == holdings_of(cards, sizes, hand)


def is_list_of_tuples(thing):
    return isinstance(thing, list) and all([is_tuple_of_numbers(part) for part in thing])


def is_tuple_of_numbers(thing):
    return isinstance(thing, tuple) and all([is_whole(part) for part in thing])


def holdings_of(cards, sizes, hand):
    # The other hands take nothing away: whatever this one holds, enough is left for them. So its own cards are
    # dealt alone, which makes few deals, and sorted ones: a card that it holds comes ahead of one that it does not.
    return [cards_of(deal, 0) for deal in deals_of(cards, [sizes[hand]])]


def by_sums(cards, sizes, hand, m):
    holdings = holdings_of(cards, sizes, hand)
    return [leaving(holdings, m, rest) for rest in range(m)]


def leaving(holdings, m, rest):
    return [holding for holding in holdings if sum(holding) % m == rest]


def fails(cards, sizes, words, a, b, e):
    deals = deals_of(cards, sizes)
    said = words_said(deals, words, a)
    others = least_unlike(split(first_view(deals, b), said), first_view(deals, a))
    told = least_told(deals, split(first_view(deals, e), said), e)
    for deal in range(len(deals)):
        if others[deal] is not None:
            return ("friend", deal, others[deal])
        if told[deal] is not None:
            return ("third", deal, told[deal])
    return None


def words_said(deals, words, a):
    numbers = {}
    for number, word in enumerate(words):
        for holding in word:
            numbers[holding] = number
    return [numbers[cards_of(deal, a)] for deal in deals]


def least_unlike(view, other_view):
    # For each thing the least one that looks alike by the first view and unlike by the other, or None. The least
    # of those that look alike by the first serves all that are unlike to it; the first of these serves the rest.
    unlike = {}
    for thing, least in enumerate(view):
        if other_view[thing] != other_view[least]:
            unlike.setdefault(least, thing)
    return [unlike.get(least) if other_view[thing] == other_view[least] else least for thing, least in enumerate(view)]


def least_told(deals, view, e):
    # For each deal the least card, none of e's, that has one holder in all deals that look alike, or None.
    moved = {}
    for deal, least in zip(deals, view):
        for card, holder in enumerate(deal):
            if holder != deals[least][card]:
                moved[(least, card)] = True
    return [least_unmoved(deal, least, moved, e) for deal, least in zip(deals, view)]


def least_unmoved(deal, least, moved, e):
    for card, holder in enumerate(deal):
        if holder != e and (least, card) not in moved:
            return card
    return None
