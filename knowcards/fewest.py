"""The fewest asks shown: a tree that tells the goal by them, and a paper that fewer are too few."""

from knowcards.asks import answering, fewest_from, with_answer

# Where no number of asks is enough, a paper is told up to this one.
MOST_ASKS = 6


def tree_of(asks, goal, some):
    found = {}
    state = (None,) * len(asks)
    if fewest_from(asks, goal, some, state, found) is None:
        return None
    return tree_from(asks, goal, some, state, found)


def tree_from(asks, goal, left, state, found):
    if found[state] == 0:
        # Those that are left have one goal; of no deals any number is theirs.
        return ("goal", min([goal[deal] for deal in left], default=0))
    number = best_ask(state, found)
    yes = tree_from(asks, goal, answering(asks[number], left, True), with_answer(state, number, True), found)
    no = tree_from(asks, goal, answering(asks[number], left, False), with_answer(state, number, False), found)
    return ("ask", number, yes, no)


def best_ask(state, found):
    return [number for number in range(len(state)) if is_good(state, number, found)][0]


def is_good(state, number, found):
    if state[number] is not None:
        return False
    left = found[state] - 1
    return not is_hard(state, number, True, left, found) and not is_hard(state, number, False, left, found)


def is_hard(state, number, answer, left, found):
    more = found[with_answer(state, number, answer)]
    return more is None or more > left


def too_few(asks, goal, some, k):
    found = {}
    state = (None,) * len(asks)
    least = fewest_from(asks, goal, some, state, found)
    if not is_too_few(least, k):
        return None
    return paper_from(state, k, found)


def is_too_few(least, k):
    return 0 <= k <= MOST_ASKS if least is None else 0 <= k < least


def paper_from(state, k, found):
    paper = []
    level = [state]
    left = k
    while len(level) > 0:
        rows = [(one, left, hard_answers(one, left, found)) for one in level]
        paper.extend(rows)
        level = states_behind(rows)
        left = left - 1
    return paper


def hard_answers(state, left, found):
    if left == 0:
        return []
    return [hard_answer(state, number, left - 1, found) for number in range(len(state))]


def hard_answer(state, number, left, found):
    if state[number] is not None:
        return None
    # The state itself is too hard, so where yes is not, no is.
    return is_hard(state, number, True, left, found)


def states_behind(rows):
    # Two states may lead to the same one, which is to stand there once.
    behind = {}
    for state, left, answers in rows:
        for number, answer in enumerate(answers):
            if answer is not None:
                behind[with_answer(state, number, answer)] = True
    return list(behind)
