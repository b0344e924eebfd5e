"""Questions about things of whatever kind, which several modules ask."""


def is_whole(thing):
    # Python counts a truth as an int; here it is no number.
    return isinstance(thing, int) and not isinstance(thing, bool)


def is_within(thing, least, most):
    return is_whole(thing) and least <= thing <= most


def is_below(thing, bound):
    return is_within(thing, 0, bound - 1)


def are_hands(thing, hands):
    if not isinstance(thing, tuple):
        return False
    least = 0
    for hand in thing:
        if not is_within(hand, least, hands - 1):
            return False
        least = hand + 1
    return True
