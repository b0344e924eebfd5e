"""Views: which things look alike, each thing told by the least one that does."""

from knowcards.packs import cards_of


def first_view(deals, hand):
    return least_with_same([cards_of(deal, hand) for deal in deals])


def split(view, values):
    return least_with_same(list(zip(view, values)))


def least_with_same(marks):
    firsts = {}
    for thing, mark in enumerate(marks):
        firsts.setdefault(mark, thing)
    return [firsts[mark] for mark in marks]


def look_alike(view, one, other):
    return view[one] == view[other]


def joined(many, views):
    # Each thing points to a lesser one of its kin, or to itself where it is the least so far.
    points = list(range(many))
    for view in views:
        for thing, least in enumerate(view):
            link(points, thing, least)
    return [end_of(points, thing) for thing in range(many)]


def link(points, one, other):
    first = end_of(points, one)
    second = end_of(points, other)
    # The lesser end stays one, so that each end is the least of its kin.
    points[max(first, second)] = min(first, second)


def end_of(points, thing):
    end = thing
    while points[end] != end:
        # The way is shortened as it is gone, or long ones would be gone anew each time.
        points[end] = points[points[end]]
        end = points[end]
    return end
