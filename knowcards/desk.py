"""The desk: one table, told and asked by rows of text."""

from knowcards.errors import NoPack, NoRow
from knowcards.kinds import are_hands, is_below, is_within
from knowcards.packs import MOST_HANDS, cards_of
from knowcards.reasons import common_why, knows_why
from knowcards.tables import Table, are_cards, refuse_unless
from knowcards.texts import PILE, read_hands, read_number, read_saying, with_commas

# What stands behind each first word, place by place; all words that are left stand in the last place.
ROWS = {
    "deal": ("number", "sizes"),
    "word": ("hands", "text"),
    "show": ("hand", "holder", "cards"),
    "knows": ("hand", "deal", "text"),
    "common": ("hands", "deal", "text"),
    "true": ("deal", "text"),
    "cards": ("deal", "holder"),
    "saw": ("hand", "deal"),
}

# The first number that takes five figures.
TOO_LARGE = 10000

DONE = "ok"
NONE = "none"


class Desk:
    def __init__(self):
        self.table = None

    def say(self, row):
        word = first_word(row)
        parts = read_parts(ROWS[word], row.split(" ")[1:])
        if word == "deal":
            # Where the new table is refused, the old one stays.
            self.table = Table(parts[0], parts[1])
            return str(len(self.table.dealt))
        if self.table is None:
            raise NoPack("no table stands here yet")
        fit = [is_there(self.table, place, part) for place, part in zip(ROWS[word], parts)]
        refuse_unless(all(fit), "this is no hand, card or deal of the table")
        return answer_of(self.table, word, parts)


def first_word(row):
    if not isinstance(row, str):
        raise NoRow("this is no text")
    word = row.split(" ")[0]
    if word not in ROWS:
        raise NoRow("no row begins so")
    return word


def read_parts(places, words):
    last = len(places) - 1
    pieces = [[word] for word in words[:last]] + [words[last:]]
    # Where words are too few, a place ahead of the last one comes to have none, and so is not read.
    parts = [read_part(place, piece) for place, piece in zip(places, pieces)]
    if None in parts:
        raise NoRow("this row is not written so")
    return parts


def read_part(place, words):
    # None where the words are not what must stand in this place.
    if place == "text":
        return " ".join(words) if len(words) > 0 else None
    if place == "cards":
        return read_plain_numbers(words)
    if place == "sizes":
        return read_plain_numbers(words) if is_within(len(words), 1, MOST_HANDS) else None
    return read_one(place, words[0]) if len(words) == 1 else None


def read_one(place, word):
    if place == "hands":
        return read_rising(word)
    if place == "holder" and word == PILE:
        return PILE
    return read_plain_number(word)


def read_rising(word):
    some = read_hands(word)
    # Written again it must be the same: so noughts and signs that don't belong there are seen.
    return some if are_hands(some, TOO_LARGE) and with_commas(some) == word else None


def read_plain_numbers(words):
    numbers = [read_plain_number(word) for word in words]
    return None if None in numbers else numbers


def read_plain_number(word):
    number = read_number(word)
    return number if is_below(number, TOO_LARGE) and str(number) == word else None


def is_there(table, place, part):
    if place == "hand":
        return is_below(part, table.hands)
    if place == "hands":
        return are_hands(part, table.hands)
    if place == "holder":
        return part == PILE or is_below(part, table.hands)
    if place == "deal":
        return is_below(part, len(table.dealt))
    if place == "cards":
        return are_cards(part, table.cards)
    # A text is looked at when all numbers are known to be there.
    return True


def answer_of(table, word, parts):
    if word == "show":
        table.show(parts[0], holder_of(table, parts[1]), parts[2])
        return DONE
    if word == "cards":
        return show_cards(cards_of(table.dealt[parts[0]], holder_of(table, parts[1])))
    if word == "saw":
        return show_seen(table.saw(parts[0], parts[1]))
    saying = read_saying(table.cards, table.hands, parts[-1])
    if word == "word":
        table.word(parts[0], saying)
        return DONE
    truths = table.truths(saying)
    if word == "true":
        return show_value(truths[parts[0]])
    if word == "knows":
        return show_knows(knows_why(table.view(parts[0]), truths, parts[1]))
    return show_common(parts[0], common_why([table.view(hand) for hand in parts[0]], truths, parts[1]))


def holder_of(table, part):
    return table.hands if part == PILE else part


def show_cards(some):
    return " ".join([str(card) for card in some]) if len(some) > 0 else NONE


def show_seen(seen):
    return " ".join([with_commas(seen[0])] + [show_value(value) for value in seen[1:]])


def show_value(value):
    if value is None:
        return NONE
    if value is True:
        return "yes"
    if value is False:
        return "no"
    return str(value)


def show_knows(why):
    return with_numbers(why[0], [why[1]] if why[0] == "not" else why[1])


def show_common(some, why):
    if why[0] == "common":
        return with_numbers(why[0], why[1])
    return " ".join([why[0]] + [show_step(some[k], deal) for k, deal in why[1]])


def with_numbers(word, numbers):
    return " ".join([word] + [str(number) for number in numbers])


def show_step(hand, deal):
    return f"{hand}:{deal}"
