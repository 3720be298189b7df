"""Ways by definition: the shortest ones over the ties as they are."""

from posthouse.tables import Table


def steps_by_house(ties):
    steps_from = {}
    for one, other, length in ties:
        steps_from.setdefault(one, []).append((other, length))
        steps_from.setdefault(other, []).append((one, length))
    return steps_from


def fars(ties, start):
    steps_from = steps_by_house(ties)
    far_of = {}
    found = {start: 0}
    while found != {}:
        # No way that is still to be found leads to the nearest one sooner: it would go by one no nearer.
        house = min([(found[number], number) for number in found])[1]
        far = found.pop(house)
        far_of[house] = far
        for neighbour, length in steps_from.get(house, []):
            if neighbour not in far_of:
                found[neighbour] = min(far + length, found.get(neighbour, far + length))
    return far_of


def due_way(ties, house, goal):
    far_of = fars(ties, goal)
    if house not in far_of:
        return None
    steps = steps_by_house(ties).get(house, [])
    # Of pairs with the same length the least is that of the least neighbour.
    return min([(length + far_of[neighbour], neighbour) for neighbour, length in steps])


def due_rows(net, house):
    table = Table()
    for beginning in net.house(house).beginnings():
        table.put(beginning, house)
    ties = net.ties()
    for goal in range(net.count()):
        way = None if goal == house else due_way(ties, house, goal)
        if way is not None:
            for beginning in net.house(goal).beginnings():
                table.put(beginning, way[1])
    return table.rows()
