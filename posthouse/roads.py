"""The road of a letter, and whether marks get better along the ways."""

from posthouse.marks import better


def road(net, house, address):
    row = net.house(house).look(address)
    passed = [house]
    while row is not None and row[1] is not None:
        if row[1] == passed[-1]:
            return (passed, "here")
        if row[1] in passed:
            return (passed, "ring")
        passed.append(row[1])
        row = net.house(row[1]).look(address)
    return (passed, "lost" if row is None else "held")


def gets_better(net, house, goal):
    way = house.way(goal)
    if way is None:
        return True
    mark = house.mark(goal)
    if way[2] == goal:
        return mark[0] <= net.house(goal).raised
    mark_ahead = net.house(way[2]).mark(goal)
    return mark_ahead is not None and better(mark_ahead, mark)


def stairs(net, goal):
    # Whatever is no house of the net is refused, though no house may have a way to it.
    net.house(goal)
    return all([gets_better(net, net.house(number), goal) for number in range(net.count())])
