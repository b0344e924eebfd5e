"""Tables: a pack dealt in every way at once, and what each hand learns of it."""

from knowcards.errors import NoHand, NoSaying
from knowcards.kinds import are_hands, is_below
from knowcards.packs import cards_of, deals_of
from knowcards.sayings import is_saying
from knowcards.truths import truths_of
from knowcards.views import first_view, split


class Table:
    def __init__(self, cards, sizes):
        self.dealt = deals_of(cards, sizes)
        self.cards = cards
        self.sizes = list(sizes)
        self.hands = len(sizes)
        self.views = [first_view(self.dealt, hand) for hand in range(self.hands)]
        # Each deed as a pair: the hands that learn by it, and its value at each deal.
        self.deeds = []

    def deals(self):
        return list(self.dealt)

    def view(self, hand):
        refuse_unless(is_below(hand, self.hands), "this is no hand")
        return list(self.views[hand])

    def word(self, hands, S):
        refuse_unless(are_hands(hands, self.hands), "this is no tuple of hands")
        return self.learn(hands, self.truths(S))

    def show(self, hand, holder, some):
        refuse_unless(is_below(hand, self.hands), "this is no hand")
        # The pile's number is the one behind the hands'.
        refuse_unless(is_below(holder, self.hands + 1), "this is no holder")
        refuse_unless(are_cards(some, self.cards), "this is no list of cards")
        rising = sorted(set(some))
        return self.learn((hand,), [least_held(deal, holder, rising) for deal in self.dealt])

    def truths(self, S):
        if not is_saying(self.cards, self.hands, S):
            raise NoSaying("this is no saying at this table")
        return truths_of(self.dealt, self.views, S)

    def saw(self, hand, deal):
        refuse_unless(is_below(hand, self.hands), "this is no hand")
        refuse_unless(is_below(deal, len(self.dealt)), "this is no number of a deal")
        return [cards_of(self.dealt[deal], hand)] + [values[deal] for hands, values in self.deeds if hand in hands]

    def again(self):
        other = Table(self.cards, self.sizes)
        # The lists within these are never changed, only replaced by others, so both tables may keep them.
        other.views = list(self.views)
        other.deeds = list(self.deeds)
        return other

    def learn(self, hands, values):
        for hand in hands:
            self.views[hand] = split(self.views[hand], values)
        self.deeds.append((hands, values))
        return list(values)


def refuse_unless(fit, reason):
    if not fit:
        raise NoHand(reason)


def are_cards(thing, cards):
    return isinstance(thing, list) and all([is_below(card, cards) for card in thing])


def least_held(deal, holder, rising):
    for card in rising:
        if deal[card] == holder:
            return card
    return None
