"""Why a hand knows something, or something is common, or why not: shown by deals."""

from knowcards.views import look_alike


def knows_why(view, truths, deal):
    alike = [other for other in range(len(view)) if look_alike(view, deal, other)]
    wrong = [other for other in alike if not truths[other]]
    if len(wrong) > 0:
        return ("not", wrong[0])
    return ("knows", alike)


def steps_from(many, views, deal):
    return [None if road is None else road[0] for road in roads_from(many, views, deal)]


def common_why(views, truths, deal):
    roads = roads_from(len(truths), views, deal)
    reached = [thing for thing, road in enumerate(roads) if road is not None]
    wrong = [thing for thing in reached if not truths[thing]]
    if len(wrong) > 0:
        return ("road", steps_to(roads, min(wrong, key=lambda thing: roads[thing][0])))
    return ("common", reached)


def roads_from(many, views, deal):
    # For each thing the fewest steps to it, the view of the last one and the thing ahead of it, or None:
    # the last steps are enough to go the whole road back.
    groups = [groups_of(view) for view in views]
    roads = [None] * many
    roads[deal] = (0, None, None)
    newest = [deal]
    while len(newest) > 0:
        newest = one_step_on(views, groups, roads, newest)
    return roads


def groups_of(view):
    groups = [[] for thing in view]
    for thing, least in enumerate(view):
        groups[least].append(thing)
    return groups


def one_step_on(views, groups, roads, newest):
    further = []
    for thing in newest:
        for k, view in enumerate(views):
            for other in groups[k][view[thing]]:
                if roads[other] is None:
                    roads[other] = (roads[thing][0] + 1, k, thing)
                    further.append(other)
            # All of this group are reached now; it is not to be walked again from each of them.
            groups[k][view[thing]] = []
    return further


def steps_to(roads, goal):
    steps = []
    thing = goal
    while roads[thing][0] > 0:
        steps.append((roads[thing][1], thing))
        thing = roads[thing][2]
    return list(reversed(steps))
