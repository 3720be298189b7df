"""Plays: a text of rows, and the answers to them."""

from posthouse.errors import NoHouse, NoNote, NotTied, Owned, Tied
from posthouse.nets import Net
from posthouse.picks import first_of
from posthouse.roads import road
from posthouse.rows import asked_by, need_text, words_of
from posthouse.texts import shown_beginning


def listed(texts):
    return "; ".join(texts) if texts != [] else "nothing"


def shown_row(house, beginning, thing):
    shown = shown_beginning(beginning)
    if thing is None:
        return f"{shown} held"
    return f"{shown} here" if thing == house else f"{shown} by {thing}"


def shown_table(net, house):
    rows = net.house(house).table().rows()
    return listed([shown_row(house, beginning, thing) for beginning, thing in rows])


def shown_road(net, house, address):
    found = road(net, house, address)
    return " ".join([str(number) for number in found[0]] + [found[1]])


def shown_way(net, number, goal):
    house = net.house(number)
    net.house(goal)
    if number == goal:
        return "here"
    way = house.way(goal)
    if way is None:
        return "none"
    length = way[1]
    neighbour = way[2]
    return f"{length} by {neighbour}"


def shown_ties(net):
    return listed([f"{one} {other} {length}" for one, other, length in net.ties()])


def shown_waiting(net):
    return listed([f"{one} to {other}" for one, other in net.waiting()])


def carried_by(net, asked):
    most = asked[1] if len(asked) == 2 else None
    carried = net.rest(first_of, most)
    return f"carried {carried}"


def sent_by(net, asked):
    # Rows that do something have the form of deeds when they are read.
    sent = net.do(asked)
    return f"sent {sent}"


def answer(net, asked):
    if asked[0] == "rest":
        return carried_by(net, asked)
    if asked[0] == "table":
        return shown_table(net, asked[1])
    if asked[0] == "road":
        return shown_road(net, asked[1], asked[2])
    if asked[0] == "way":
        return shown_way(net, asked[1], asked[2])
    if asked[0] == "ties":
        return shown_ties(net)
    if asked[0] == "waiting":
        return shown_waiting(net)
    return sent_by(net, asked)


def answer_or_refusal(net, asked):
    try:
        return answer(net, asked)
    except NoHouse:
        return "refused: nohouse"
    except Owned:
        return "refused: owned"
    except Tied:
        return "refused: tied"
    except NotTied:
        return "refused: nottied"
    except NoNote:
        return "refused: nonote"


def play(text):
    need_text(text)
    rows = [row for row in text.split("\n") if words_of(row) != []]
    net = None
    answers = []
    for row in rows:
        asked = asked_by(row)
        if asked is None:
            answers.append("no row")
        elif asked[0] == "net":
            net = Net(asked[1])
            answers.append("ok")
        elif net is None:
            answers.append("no net")
        else:
            answers.append(answer_or_refusal(net, asked))
    return answers
