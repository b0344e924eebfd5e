"""Liars: how many hands lie at each deal, and what is sure though some may."""


def liars_of(many, claims):
    return [len(set([hand for hand, truths in claims if not truths[deal]])) for deal in range(many)]


def may_be(many, claims, most):
    return [deal for deal, liars in enumerate(liars_of(many, claims)) if liars <= most]


def how_sure(many, claims, truths):
    liars = liars_of(many, claims)
    wrong = [deal for deal in range(many) if not truths[deal]]
    if len(wrong) == 0:
        return None
    # Of several with so few the first is taken, which is the least.
    first = min(wrong, key=lambda deal: liars[deal])
    return (liars[first] - 1, first)
