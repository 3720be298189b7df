"""Picks: which of the directions that wait comes next."""


class Turns:
    def __init__(self, start):
        self.turn = start

    def take(self):
        turn = self.turn
        self.turn += 1
        return turn


def first_of(waiting):
    return 0


def last_of(waiting):
    return len(waiting) - 1


def by_turns(start):
    turns = Turns(start)

    def turn_of(waiting):
        return turns.take()

    return turn_of
