"""Leaning: the order of places that lean on one another, and which are stuck because they come round."""

from slate.places import in_order, marked


def sorted_out(leans):
    order = order_of(leans)
    stuck = stuck_beside(leans, order)
    nexts = {}
    for key in stuck:
        nexts[key] = min([place for place in leans[key] if place in stuck])
    return (order, nexts)


def order_of(leans):
    # What waits for nothing is kept with the least one last, where it is taken from. Who is stuck never gets there.
    leaners = leaners_of(leans)
    waits = waits_of(leans)
    ready = sorted([key for key in leans if waits[key] == 0], reverse=True)
    order = []
    while ready:
        key = ready.pop()
        order.append(key)
        for leaner in leaners[key]:
            waits[leaner] = waits[leaner] - 1
            if waits[leaner] == 0:
                ready.insert(spot_of(leaner, ready), leaner)
    return order


def waits_of(leans):
    # A place that stands twice in a list is waited for twice: it has that leaner twice, too.
    waits = {}
    for key in leans:
        waits[key] = len([place for place in leans[key] if place in leans])
    return waits


def leaners_of(leans):
    leaners = {}
    for key in leans:
        leaners[key] = []
    for key in leans:
        for place in leans[key]:
            if place in leans:
                leaners[place].append(key)
    return leaners


def spot_of(place, ready):
    # By halves, the greater ones being first: a whole sheet may be ready at once.
    low = 0
    high = len(ready)
    while low < high:
        middle = (low + high) // 2
        if ready[middle] > place:
            low = middle + 1
        else:
            high = middle
    return low


def stuck_beside(leans, order):
    placed = marked(order)
    return marked(in_order([key for key in leans if key not in placed]))
