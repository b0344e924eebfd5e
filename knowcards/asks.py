"""Asks: which deals the answers leave, and how few asks tell a goal."""


def leaves(asks, some, state):
    return [deal for deal in some if has_answers(asks, deal, state)]


def has_answers(asks, deal, state):
    return all([answer is None or ask[deal] == answer for ask, answer in zip(asks, state)])


def fewest(asks, goal, some):
    return fewest_from(asks, goal, some, (None,) * len(asks), {})


def fewest_from(asks, goal, left, state, found):
    # The same asks in another order come to the same state, so what was found for it is kept.
    if state not in found:
        found[state] = 0 if are_same(goal, left) else fewest_of_more(asks, goal, left, state, found)
    return found[state]


def are_same(goal, left):
    return len(set([goal[deal] for deal in left])) < 2


def fewest_of_more(asks, goal, left, state, found):
    counts = []
    for number, ask in enumerate(asks):
        if state[number] is None:
            yes = fewest_from(asks, goal, answering(ask, left, True), with_answer(state, number, True), found)
            no = fewest_from(asks, goal, answering(ask, left, False), with_answer(state, number, False), found)
            if yes is not None and no is not None:
                counts.append(1 + max(yes, no))
    return min(counts, default=None)


def answering(ask, left, answer):
    return [deal for deal in left if ask[deal] == answer]


def with_answer(state, number, answer):
    return state[:number] + (answer,) + state[number + 1:]
