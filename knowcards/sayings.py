"""What a saying is, and of which words it is built."""

from knowcards.kinds import are_hands, is_below, is_whole

MOST_WORDS = 30

# What stands behind each first word of a saying, place by place.
FORMS = {
    "holds": ("holder", "card"),
    "not": ("saying",),
    "and": ("saying", "saying"),
    "or": ("saying", "saying"),
    "knows": ("hand", "saying"),
    "all": ("hands", "saying"),
    "common": ("hands", "saying"),
    "sees": ("hand",),
}

CARD_WORDS = ("holds", "not", "and", "or")


def is_saying(cards, hands, thing):
    if not is_whole(cards) or not is_whole(hands):
        return False
    # Counted while it is walked, so that a thing grown too large is left at once.
    words = 0
    level = [thing]
    while len(level) > 0:
        words = words + len(level)
        if words > MOST_WORDS or not all([is_word(cards, hands, one) for one in level]):
            return False
        level = parts_of_all(level)
    return True


def is_word(cards, hands, thing):
    if not isinstance(thing, tuple) or len(thing) == 0:
        return False
    # Asked ahead of the look into FORMS, where a list or dict could be no key.
    if not isinstance(thing[0], str) or thing[0] not in FORMS:
        return False
    form = FORMS[thing[0]]
    if len(thing) != 1 + len(form):
        return False
    return all([fits(cards, hands, place, part) for place, part in zip(form, thing[1:])])


def fits(cards, hands, place, part):
    if place == "holder":
        # The pile's number is the one behind the hands'.
        return is_below(part, hands + 1)
    if place == "card":
        return is_below(part, cards)
    if place == "hand":
        return is_below(part, hands)
    if place == "hands":
        return are_hands(part, hands)
    # A saying's place takes anything here: what stands there is asked in its own turn.
    return True


def parts_of(saying):
    form = FORMS[saying[0]]
    return [part for place, part in zip(form, saying[1:]) if place == "saying"]


def parts_of_all(sayings):
    parts = []
    for saying in sayings:
        parts.extend(parts_of(saying))
    return parts


def words_in(S):
    return 1 + sum([words_in(part) for part in parts_of(S)])


def of_cards_alone(S):
    return S[0] in CARD_WORDS and all([of_cards_alone(part) for part in parts_of(S)])
