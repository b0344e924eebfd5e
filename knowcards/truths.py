"""Where a saying is true, by the views of all hands."""

from knowcards.packs import cards_of
from knowcards.views import joined


def truths_of(deals, views, S):
    word = S[0]
    if word == "holds":
        return [deal[S[2]] == S[1] for deal in deals]
    if word == "sees":
        # The pile's number is the count of hands, and each hand has one view.
        return seen([cards_of(deal, len(views)) for deal in deals], views[S[1]])
    if word == "not":
        return [not truth for truth in truths_of(deals, views, S[1])]
    if word == "and":
        return both(truths_of(deals, views, S[1]), truths_of(deals, views, S[2]))
    if word == "or":
        return either(truths_of(deals, views, S[1]), truths_of(deals, views, S[2]))
    inner = truths_of(deals, views, S[2])
    if word == "knows":
        return known(views[S[1]], inner)
    some = [views[hand] for hand in S[1]]
    if word == "all":
        return known_to_all(some, inner)
    return known(joined(len(deals), some), inner)


def both(ones, others):
    return [one and other for one, other in zip(ones, others)]


def either(ones, others):
    return [one or other for one, other in zip(ones, others)]


def known(view, truths):
    # What is false is noted at the least that looks alike, where all others that do so find it.
    sure = [True] * len(view)
    for least, truth in zip(view, truths):
        if not truth:
            sure[least] = False
    return [sure[least] for least in view]


def known_to_all(views, truths):
    answers = [True] * len(truths)
    for view in views:
        answers = both(answers, known(view, truths))
    return answers


def seen(piles, view):
    return known(view, [pile == piles[least] for pile, least in zip(piles, view)])
