"""Several walkers that share the work: each has its own way to go, and together they visit the marked places."""

from dialroad.integers import is_whole


def blocks_of(tasks):
    """The stretches of all tasks, ascending, with those that share a place merged."""
    blocks = []
    for low, high in sorted([(min(task), max(task)) for task in tasks]):
        if blocks and low <= blocks[-1][1]:
            blocks[-1] = (blocks[-1][0], max(high, blocks[-1][1]))
        else:
            blocks.append((low, high))
    return blocks


def longest_part(low, high, marked):
    """The longest part of a gap without a marked place strictly inside, the leftmost of the longest."""
    places = [low] + sorted([place for place in marked if low < place < high]) + [high]
    return max(list(zip(places, places[1:])), key=lambda part: part[1] - part[0])


def unused(tasks, marked):
    """The edges that no walker needs to cross, one pair (start, stop) for each gap between two stretches."""
    blocks = blocks_of(tasks)
    return [longest_part(block[1], following[0], marked) for block, following in zip(blocks, blocks[1:])]


def reaches(tasks, marked):
    """For each merged stretch (low, high), the pair of places to the left and to the right that must be reached."""
    blocks = blocks_of(tasks)
    pairs = unused(tasks, marked)
    # Beyond the outermost stretches all marked places must be reached from there.
    lefts = [min([blocks[0][0]] + list(marked))] + [stop for start, stop in pairs]
    rights = [start for start, stop in pairs] + [max([blocks[-1][1]] + list(marked))]
    return {block: (left, right) for block, left, right in zip(blocks, lefts, rights)}


def route_of(task, left, right):
    """The shortest route of a task that also reaches a place to the left and a place to the right."""
    start, end = task
    if start <= end:
        return [start, left, right, end]
    return [start, right, left, end]


def plan(tasks, marked):
    """A plan with the least total: a list of one route for each walker."""
    lefts, rights = {}, {}
    for (low, high), (left, right) in reaches(tasks, marked).items():
        lefts[low] = left
        rights[high] = right
    routes = []
    for task in tasks:
        # The first walker whose stretch begins or ends where a merged one does goes beyond; the others need not.
        low, high = min(task), max(task)
        routes.append(route_of(task, lefts.pop(low, low), rights.pop(high, high)))
    return routes


def distance_of(route):
    """How many steps a route has."""
    return sum([abs(after - before) for before, after in zip(route, route[1:])])


def least_steps(tasks, marked):
    """The least total number of steps."""
    return sum([distance_of(route) for route in plan(tasks, marked)])


def is_route(task, value):
    """Whether any value is a route of a task."""
    if not isinstance(value, list) or not value:
        return False
    return all([is_whole(place) for place in value]) and (value[0], value[-1]) == (task[0], task[1])


def plan_steps(tasks, marked, value):
    """The total of any value that is a plan in which all marked places are visited, otherwise None."""
    if not isinstance(value, list) or len(value) != len(tasks):
        return None
    if not all([is_route(task, route) for task, route in zip(tasks, value)]):
        return None
    # A walker visits every place between the least and the greatest one of its route.
    stretches = [(min(route), max(route)) for route in value]
    if not all([any([low <= place <= high for low, high in stretches]) for place in marked]):
        return None
    return sum([distance_of(route) for route in value])
