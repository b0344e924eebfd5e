"""Packs of cards, and all the ways in which they can be dealt."""

from knowcards.errors import NoPack, TooMany
from knowcards.kinds import is_within

MOST_CARDS = 12
MOST_HANDS = 5
MOST_DEALS = 2000


def is_pack(cards, sizes):
    if not is_within(cards, 0, MOST_CARDS):
        return False
    if not isinstance(sizes, list) or not is_within(len(sizes), 1, MOST_HANDS):
        return False
    # The sum is taken last: only then are the sizes known to be numbers.
    return all([is_within(size, 0, cards) for size in sizes]) and sum(sizes) <= cards


def how_many(cards, sizes):
    if not is_pack(cards, sizes):
        raise NoPack("these cards and sizes tell no pack")
    many = 1
    left = cards
    for size in sizes:
        many = many * choices(left, size)
        left = left - size
    return many


def choices(many, taken):
    # Each step is itself a number of choices, so the division leaves nothing over.
    ways = 1
    for step in range(taken):
        ways = ways * (many - step) // (step + 1)
    return ways


def deals_of(cards, sizes):
    if how_many(cards, sizes) > MOST_DEALS:
        raise TooMany(f"the pack has more than {MOST_DEALS} deals")
    room = sizes + [cards - sum(sizes)]
    begun = [()]
    for card in range(cards):
        begun = with_one_more(begun, room)
    return begun


def with_one_more(begun, room):
    # Sorted beginnings, each lengthened by rising holders, come out sorted again.
    longer = []
    for deal in begun:
        for who, most in enumerate(room):
            if deal.count(who) < most:
                longer.append(deal + (who,))
    return longer


def cards_of(deal, who):
    return tuple([card for card, holder in enumerate(deal) if holder == who])
