"""What several tests need: things of strange kinds, and a check that a call changes nothing."""

import copy

LARGEST = 10 ** 60 - 1


def nested(wrap, core, times):
    thing = core
    for _ in range(times):
        thing = wrap(thing)
    return thing


def in_list(thing):
    return [thing]


def in_tuple(thing):
    return (thing,)


def in_dict(thing):
    return {"not": thing}


def not_whole():
    """Things that are no whole numbers, as strange as point 2 lets them be."""
    return [
        None, True, False, "", "0", "3", "holds 0 0", "~" * 4000,
        [], (), {}, [0], (0,), {0: 0}, [[]], ((),), {"holds": []},
        [None] * 1999, (0,) * 1999, dict([(k, k) for k in range(999)]),
        nested(in_list, 0, 40), nested(in_tuple, 0, 40), nested(in_dict, 0, 40),
        nested(in_list, None, 39), nested(in_tuple, "holds", 39), nested(in_dict, True, 39),
    ]


def strange_things():
    """The same, with whole numbers among them."""
    return not_whole() + [0, 1, -1, 12, 13, LARGEST, -LARGEST]


def called_safely(case, function, *handed):
    """What the call answers; whether it answers or refuses, nothing handed in may be changed by it."""
    before = copy.deepcopy(handed)
    try:
        return function(*handed)
    finally:
        case.assertEqual(handed, before)
