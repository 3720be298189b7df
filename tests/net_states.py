"""Nets for the tests: made by deeds, and shown as values that can be compared."""

from posthouse.nets import Net

# Things that are the number of no house, whatever the net.
NO_NUMBERS = (
    None, True, False, "", "0", "1", [], [0], [1], (), (0,), (1,), (0, 1), {}, 1.0, 0.0, 10 ** 30, -(10 ** 30), 10 ** 5000,
)


def notes_of(net):
    """The notes that are on their way, by their directions."""
    notes = {}
    for one, other, length in net.ties():
        for way in ((one, other), (other, one)):
            notes[way] = net.between.notes(way[0], way[1])
    return notes


def state_of_house(house, count):
    knows = [(house.way(goal), house.mark(goal)) for goal in range(count)]
    return (house.number, house.raised, house.beginnings(), house.neighbours(), knows, house.table().rows())


def state(net):
    houses = [state_of_house(net.house(number), net.count()) for number in range(net.count())]
    return (houses, net.ties(), net.waiting(), notes_of(net), net.log())


def done(count, *deeds):
    net = Net(count)
    for deed in deeds:
        net.do(deed)
    return net
