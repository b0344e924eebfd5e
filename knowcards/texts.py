"""The text of a saying: how it is written, and how it is read again."""

from knowcards.errors import NoSaying
from knowcards.sayings import FORMS, is_saying

# These two stand between their sayings, in brackets; the other words stand ahead of theirs.
BETWEEN = ("and", "or")
PILE = "pile"
NO_NUMBERS = "-"


def show_saying(hands, S):
    word = S[0]
    shown = [show_part(hands, place, part) for place, part in zip(FORMS[word], S[1:])]
    if word in BETWEEN:
        return "(" + shown[0] + " " + word + " " + shown[1] + ")"
    return " ".join([word] + shown)


def show_part(hands, place, part):
    if place == "saying":
        return show_saying(hands, part)
    if place == "hands":
        return with_commas(part)
    if place == "holder" and part == hands:
        return PILE
    return str(part)


def with_commas(numbers):
    if len(numbers) == 0:
        return NO_NUMBERS
    return ",".join([str(number) for number in numbers])


def read_saying(cards, hands, text):
    if not isinstance(text, str):
        raise NoSaying("this is no text")
    things = built_of(hands, words_of(text))
    if len(things) != 1 or not is_saying(cards, hands, things[0]):
        raise NoSaying("this is no saying's text")
    # Each saying has one text alone: blanks, brackets, noughts and signs that don't belong there are seen by it.
    if show_saying(hands, things[0]) != text:
        raise NoSaying("the saying is not written so")
    return things[0]


def words_of(text):
    return text.replace("(", "( ").replace(")", " )").split(" ")


def built_of(hands, words):
    # From the last word on back: what belongs to a word is then built ahead of it, however deep it lies.
    things = []
    for word in reversed(words):
        things = with_word(hands, word, things)
    return things


def with_word(hands, word, things):
    if word == "(":
        return [out_of_brackets(things[:4])] + things[4:]
    if word in FORMS and word not in BETWEEN:
        form = FORMS[word]
        parts = [read_part(hands, place, thing) for place, thing in zip(form, things)]
        return [tuple([word] + parts)] + things[len(form):]
    return [word] + things


def out_of_brackets(things):
    if len(things) < 4 or things[3] != ")":
        return None
    return (things[1], things[0], things[2])


def read_part(hands, place, thing):
    if place == "saying":
        return thing
    if not isinstance(thing, str):
        return None
    if place == "hands":
        return read_hands(thing)
    if place == "holder" and thing == PILE:
        return hands
    return read_number(thing)


def read_hands(word):
    if word == NO_NUMBERS:
        return ()
    return tuple([read_number(part) for part in word.split(",")])


def read_number(word):
    try:
        return int(word)
    except ValueError:
        return None
