import random
import unittest

from net_states import done
from posthouse.errors import BadText
from posthouse.nets import Net
from posthouse.picks import first_of
from posthouse.plays import play
from posthouse.roads import road
from posthouse.texts import shown_address, shown_beginning

LINE = "net 4\nown 3 01*\ncome 0 1 5\ncome 1 2 6\ncome 3 2 7\n"
LINE_DEEDS = (("own", 3, (1, 2)), ("come", 0, 1, 5), ("come", 1, 2, 6), ("come", 3, 2, 7))
# A row of each form, good in any net of two houses or more.
EACH = (
    "own 0 *", "come 0 1 5", "fall 0 1", "carry 0 1", "rest", "rest 3", "table 0", "road 0 0.0", "way 0 1", "way 1 1",
    "ties", "waiting",
)
BAD_ROWS = (
    "x", "net", "net 0", "net 33", "net 3 3", "net 03", "own 0", "own 0 01", "own 32 *", "come 0 1", "come 0 1 0",
    "come 0 1 100", "come 0 32 5", "come 0 1 5 5", "fall 0", "fall 0 32", "carry 32 0", "carry 0 1 2", "rest -1", "rest 00",
    "rest 1000000000", "rest 1 1", "table", "table 32", "table 0 0", "road 0", "road 0 0", "road 0 0.256", "road 32 0.0",
    "way 0", "way 0 32", "way 0 1 2", "ties 0", "waiting 0", "Ties", "0", "*", "~", "net\t3", "sent 0", "\tties",
)


class PlayTest(unittest.TestCase):
    def check_last(self, ahead, row, answer):
        with self.subTest(row=row):
            self.assertEqual(play(ahead + "\n" + row)[-1], answer)

    def check_stays(self, ahead, row, answer):
        """The row has that answer, and what is asked behind it is answered as if it weren't there."""
        self.check_last(ahead, row, answer)
        behind = "\nties\nwaiting\ntable 0\ntable 1\ntable 2\nrest\ntable 0\ntable 1\ntable 2"
        without = play(ahead + behind)
        rows = len(play(ahead))
        self.assertEqual(play(ahead + "\n" + row + behind), without[:rows] + [answer] + without[rows:])


class Texts(PlayTest):
    def test_no_rows(self):
        for text in ("", " ", "\n", "\n\n\n", "   \n  \n ", " " * 100):
            self.assertEqual(play(text), [])

    def test_rows_without_words_have_no_answer(self):
        self.assertEqual(play("\n\nnet 2\n\n   \nties\n \n"), ["ok", "nothing"])
        self.assertEqual(play("x\n\ny"), ["no row", "no row"])

    def test_one_answer_for_each_row_with_words(self):
        self.assertEqual(play("net 2"), ["ok"])
        self.assertEqual(play("net 2\n"), ["ok"])
        self.assertEqual(len(play("net 2\n" + "\n".join(EACH) + "\n" + "\n".join(BAD_ROWS))), 1 + len(EACH) + len(BAD_ROWS))

    def test_blanks_ahead_behind_and_between(self):
        wanted = play(LINE + "rest\ntable 0\nroad 0 64.0\nrest 3\nties")
        rows = (LINE + "rest\ntable 0\nroad 0 64.0\nrest 3\nties").split("\n")
        self.assertEqual(play("\n".join(["  " + row.replace(" ", "   ") + " " for row in rows])), wanted)

    def test_a_list_of_texts_that_is_new_each_time(self):
        first = play(LINE)
        self.assertIs(type(first), list)
        self.assertEqual({type(answer) for answer in first}, {str})
        kept = list(first)
        first.clear()
        self.assertEqual(play(LINE), kept)
        empty = play("")
        empty.append("x")
        self.assertEqual(play(""), [])

    def test_each_play_begins_without_a_net(self):
        self.assertEqual(play("net 2\nties"), ["ok", "nothing"])
        self.assertEqual(play("ties"), ["no net"])

    def test_whatever_is_no_text(self):
        for thing in (None, True, False, 0, 1, 10 ** 5000, [], ["net 2"], ["net 2", "ties"], (), ("net 2",), {}, b"net 2", 1.5):
            with self.assertRaises(BadText) as caught:
                play(thing)
            self.assertIs(caught.exception.__class__, BadText)


class Nets(PlayTest):
    def test_each_count(self):
        for count in range(1, 33):
            rows = f"net {count}\ntable {count - 1}\nway {count - 1} {count - 1}"
            self.assertEqual(play(rows), ["ok", "nothing", "here"])
            if count < 32:
                self.check_last(f"net {count}", f"table {count}", "refused: nohouse")

    def test_a_later_net_begins_anew(self):
        answers = play(LINE + "net 2\nties\nwaiting\ntable 0\nrest\nown 1 01*\ncome 1 0 3\nties\ntable 3")
        self.assertEqual(answers[5:], [
            "ok", "nothing", "nothing", "nothing", "carried 0", "sent 0", "sent 4", "0 1 3", "refused: nohouse",
        ])

    def test_a_later_net_of_no_good_form_changes_nothing(self):
        for row in ("net", "net 0", "net 33", "net 02", "net x", "net 2 2"):
            self.check_stays(LINE, row, "no row")


class Doing(PlayTest):
    def test_sent_is_what_the_net_tells(self):
        net = Net(4)
        wanted = ["ok"]
        rows = ["net 4"]
        for deed, row in (
            (("own", 3, (1, 2)), "own 3 01*"), (("come", 0, 1, 5), "come 0 1 5"), (("come", 2, 1, 6), "come 2 1 6"),
            (("carry", 1, 0), "carry 1 0"), (("carry", 1, 0), "carry 1 0"), (("carry", 0, 1), "carry 0 1"),
            (("own", 1, (0, 0)), "own 1 *"), (("come", 2, 3, 99), "come 2 3 99"), (("carry", 3, 2), "carry 3 2"),
            (("fall", 1, 0), "fall 1 0"), (("own", 2, (65535, 16)), "own 2 1111111111111111"), (("fall", 2, 3), "fall 2 3"),
        ):
            wanted.append(f"sent {net.do(deed)}")
            rows.append(row)
        self.assertEqual(play("\n".join(rows)), wanted)
        self.assertGreater(len(set(wanted)), 5)

    def test_numbers_of_notes_by_hand(self):
        self.assertEqual(
            play("net 2\nown 1 *\ncome 0 1 5\nown 1 0*\ncarry 1 0\ncarry 1 0\ncarry 0 1\nfall 0 1"),
            ["ok", "sent 0", "sent 4", "sent 1", "sent 1", "sent 1", "sent 1", "sent 0"],
        )

    def test_rest_to_the_end(self):
        carried = done(4, *LINE_DEEDS).rest(first_of)
        self.check_last(LINE, "rest", f"carried {carried}")
        self.assertEqual(play(LINE + "rest\nwaiting\nrest")[-3:], [f"carried {carried}", "nothing", "carried 0"])
        self.assertGreater(carried, 40)

    def test_rest_of_some(self):
        whole = done(4, *LINE_DEEDS).rest(first_of)
        for most in (0, 1, 2, 17, whole - 1, whole, whole + 1, 999999999):
            carried = min(most, whole)
            answers = play(LINE + f"rest {most}\nrest")
            self.assertEqual(answers[-2:], [f"carried {carried}", f"carried {whole - carried}"])

    def test_rest_takes_the_first_of_all_that_wait(self):
        net = done(4, *LINE_DEEDS)
        for most in range(40):
            shown = "; ".join([f"{one} to {other}" for one, other in net.waiting()])
            self.check_last(LINE, f"rest {most}\nwaiting", shown)
            net.rest(first_of, 1)

    def test_nothing_to_carry(self):
        self.assertEqual(play("net 2\nrest\nrest 0\nrest 5"), ["ok", "carried 0", "carried 0", "carried 0"])


class Asking(PlayTest):
    def test_table(self):
        rested = LINE + "own 1 *\nown 0 0101*\nrest"
        self.check_last(rested, "table 0", "* by 1; 01* by 1; 0101* here")
        self.check_last(rested, "table 1", "* here; 01* by 2; 0101* by 0")
        self.check_last(rested, "table 3", "* by 2; 01* here; 0101* by 2")
        self.check_last(rested + "\nfall 1 2", "table 1", "* here; 01* held; 0101* by 0")
        self.check_last(rested + "\nfall 1 2\nrest", "table 3", "* held; 01* here; 0101* held")

    def test_table_of_house_0(self):
        self.check_last("net 2\nown 0 *\ncome 0 1 5\nrest", "table 0", "* here")
        self.check_last("net 2\nown 0 *\ncome 0 1 5\nrest", "table 1", "* by 0")

    def test_table_in_order(self):
        rows = "net 1\nown 0 1*\nown 0 0*\nown 0 *\nown 0 0000000000000000\nown 0 01*"
        self.check_last(rows, "table 0", "* here; 0* here; 0000000000000000 here; 01* here; 1* here")

    def test_table_without_rows(self):
        self.check_last("net 2", "table 0", "nothing")
        self.check_last(LINE, "table 0", "nothing")

    def test_road(self):
        rested = LINE + "own 1 *\nrest"
        self.check_last(rested, "road 0 64.0", "0 1 2 3 here")
        self.check_last(rested, "road 3 127.255", "3 here")
        self.check_last(rested, "road 3 128.0", "3 2 1 here")
        self.check_last(rested, "road 0 0.1", "0 1 here")
        self.check_last(rested + "\nfall 2 3", "road 0 64.0", "0 1 2 held")
        self.check_last(rested + "\nfall 2 3\nrest", "road 0 64.0", "0 held")
        self.check_last(LINE, "road 0 64.0", "0 lost")
        self.check_last(LINE, "road 3 64.0", "3 here")
        self.check_last(LINE + "rest", "road 0 0.1", "0 lost")

    def test_way(self):
        rested = LINE + "rest"
        self.check_last(rested, "way 0 3", "18 by 1")
        self.check_last(rested, "way 3 0", "18 by 2")
        self.check_last(rested, "way 1 0", "5 by 0")
        self.check_last(rested, "way 2 2", "here")
        self.check_last(rested, "way 0 0", "here")
        self.check_last(LINE, "way 0 3", "none")
        self.check_last(rested + "\nfall 1 2\nrest", "way 0 3", "none")
        self.check_last(rested + "\nfall 1 2\nrest", "way 0 1", "5 by 1")
        self.check_last("net 1", "way 0 0", "here")
        self.check_last("net 2", "way 0 1", "none")

    def test_ties(self):
        self.check_last("net 3", "ties", "nothing")
        self.check_last("net 12\ncome 11 2 7", "ties", "2 11 7")
        self.check_last("net 12\ncome 11 2 7\ncome 2 10 99\ncome 1 0 1", "ties", "0 1 1; 2 10 99; 2 11 7")
        self.check_last("net 3\ncome 0 1 5\nfall 0 1", "ties", "nothing")

    def test_waiting(self):
        self.check_last("net 3", "waiting", "nothing")
        self.check_last("net 12\ncome 11 2 7", "waiting", "2 to 11; 11 to 2")
        self.check_last("net 3\ncome 0 1 5\ncarry 1 0", "waiting", "0 to 1")
        self.check_last("net 3\ncome 0 1 5\ncome 1 2 5\nfall 0 1", "waiting", "1 to 2; 2 to 1")
        self.check_last("net 3\ncome 0 1 5\nrest", "waiting", "nothing")

    def test_asking_changes_nothing(self):
        for row, answer in (
            ("table 0", "nothing"), ("road 0 64.0", "0 lost"), ("way 0 3", "none"), ("ties", "0 1 5; 1 2 6; 2 3 7"),
            ("waiting", "0 to 1; 1 to 0; 1 to 2; 2 to 1; 2 to 3; 3 to 2"), ("rest 0", "carried 0"),
        ):
            self.check_stays(LINE, row, answer)


class NoRows(PlayTest):
    def test_ahead_of_any_net(self):
        for row in BAD_ROWS:
            self.assertEqual(play(row), ["no row"])

    def test_in_a_net(self):
        for row in BAD_ROWS:
            self.check_stays(LINE, row, "no row")

    def test_no_net(self):
        for row in EACH:
            self.assertEqual(play(row), ["no net"])

    def test_no_net_also_of_houses_that_none_has(self):
        for row in ("table 31", "road 31 0.0", "way 31 31", "own 31 *", "come 5 5 5", "fall 0 0", "carry 31 30"):
            self.assertEqual(play(row), ["no net"])

    def test_a_row_of_no_good_form_begins_no_net(self):
        self.assertEqual(play("net 33\nties\nnet 0\nrest\nnet 1\nties"), ["no row", "no net", "no row", "no net", "ok", "nothing"])

    def test_the_form_is_looked_at_first(self):
        for row in ("come 9 9 0", "come 9 9 100", "own 9 2*", "road 9 0.256", "way 9 32", "fall 32 9", "carry 9 01"):
            self.assertEqual(play(row), ["no row"])
            self.check_stays(LINE, row, "no row")


class Refusals(PlayTest):
    def test_no_house(self):
        for row in (
            "own 4 *", "own 31 *", "come 0 4 5", "come 4 0 5", "come 4 31 5", "fall 0 4", "fall 4 0", "carry 0 4", "carry 31 0",
            "table 4", "table 31", "road 4 64.0", "road 31 0.0", "way 0 4", "way 4 0", "way 4 5", "way 4 4", "way 31 31",
        ):
            self.check_stays(LINE, row, "refused: nohouse")

    def test_two_that_are_the_same(self):
        for row in ("come 0 0 5", "fall 1 1", "carry 2 2", "come 4 4 5"):
            self.check_stays(LINE, row, "refused: nohouse")

    def test_owned(self):
        for row in ("own 3 01*", "own 0 01*"):
            self.check_stays(LINE, row, "refused: owned")

    def test_tied(self):
        for row in ("come 0 1 5", "come 1 0 5", "come 2 3 99"):
            self.check_stays(LINE, row, "refused: tied")

    def test_not_tied(self):
        for row in ("fall 0 2", "fall 3 0", "carry 0 2", "carry 3 1"):
            self.check_stays(LINE, row, "refused: nottied")

    def test_no_note(self):
        for row in ("carry 0 1", "carry 3 2"):
            self.check_stays(LINE + "rest", row, "refused: nonote")

    def test_the_first_told_first(self):
        self.check_stays(LINE, "own 4 01*", "refused: nohouse")
        self.check_stays(LINE + "fall 0 1", "carry 0 1", "refused: nottied")

    def test_after_a_refusal_the_play_goes_on(self):
        self.assertEqual(
            play("net 2\ncome 0 0 1\ncome 0 1 1\ncome 0 1 1\nfall 0 1\nfall 0 1\nties"),
            ["ok", "refused: nohouse", "sent 4", "refused: tied", "sent 0", "refused: nottied", "nothing"],
        )


class AgainstANet(unittest.TestCase):
    """Plays by chance, beside the same deeds done to a net."""

    WORDS = {
        "NoHouse": "refused: nohouse", "Owned": "refused: owned", "Tied": "refused: tied", "NotTied": "refused: nottied",
        "NoNote": "refused: nonote",
    }

    def done_and_shown(self, net, chance):
        one = chance.randrange(net.count() + 1)
        other = chance.randrange(net.count() + 1)
        word = chance.choice(("own", "come", "come", "fall") + ("carry",) * 8)
        if word == "own":
            size = chance.choice((0, 1, 2, 3, 16))
            deed = (word, one, (chance.randrange(1 << size), size))
            row = f"own {one} {shown_beginning(deed[2])}"
        else:
            deed = (word, one, other) + ((chance.randrange(1, 100),) if word == "come" else ())
            row = " ".join(str(part) for part in deed)
        try:
            return row, f"sent {net.do(deed)}"
        except ValueError as refusal:
            return row, self.WORDS[refusal.__class__.__name__]

    def asked_and_shown(self, net, chance):
        house = chance.randrange(net.count())
        goal = chance.randrange(net.count())
        address = chance.randrange(65536)
        kind = chance.randrange(3)
        if kind == 0:
            houses, word = road(net, house, address)
            return f"road {house} {shown_address(address)}", " ".join([str(number) for number in houses]) + " " + word
        if kind == 1:
            way = net.house(house).way(goal)
            shown = "none" if way is None else f"{way[1]} by {way[2]}"
            return f"way {house} {goal}", "here" if house == goal else shown
        rows = [
            shown_beginning(beginning) + (" held" if thing is None else " here" if thing == house else f" by {thing}")
            for beginning, thing in net.house(house).table().rows()
        ]
        return f"table {house}", "; ".join(rows) or "nothing"

    def test_some_plays(self):
        for seed in range(40):
            chance = random.Random(seed)
            net = Net(chance.randrange(1, 7))
            rows = [f"net {net.count()}"]
            answers = ["ok"]
            for turn in range(80):
                told = self.done_and_shown(net, chance) if chance.random() < 0.7 else self.asked_and_shown(net, chance)
                rows.append(told[0])
                answers.append(told[1])
            with self.subTest(seed=seed):
                self.assertEqual(play("\n".join(rows)), answers)


if __name__ == "__main__":
    unittest.main()
