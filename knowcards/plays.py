"""Plays: rounds in which all hands learn, turn by turn, whether a saying is true."""


def play(table, sayings, turns):
    own = table.again()
    everyone = tuple(range(own.hands))
    told = []
    # How many turns in a row, up to the last one, have split no view.
    still = 0
    while len(told) < turns and still < len(sayings):
        before = list(own.views)
        told.append(own.word(everyone, sayings[len(told) % len(sayings)]))
        still = still + 1 if own.views == before else 0
    return told


def first_turns(many, answers):
    firsts = [None] * many
    for turn, truths in enumerate(answers):
        for deal in range(many):
            if firsts[deal] is None and truths[deal]:
                firsts[deal] = turn
    return firsts
