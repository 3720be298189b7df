import ast
import inspect
import pathlib
import unittest

import posthouse
from posthouse import (
    bits, deeds, houses, marks, nets, notes, picks, plays, roads, rows, shortest, tables, texts, ties, ways,
)

PACKAGE = pathlib.Path(posthouse.__file__).resolve().parent

# The order in which the document names the files: each draws from those ahead of it alone.
FILES = (
    "errors", "bits", "texts", "tables", "marks", "ways", "notes", "houses", "ties", "deeds", "picks", "nets",
    "shortest", "roads", "rows", "plays",
)

FUNCTIONS = (
    (bits.is_address, "(thing)"),
    (bits.is_beginning, "(thing)"),
    (bits.begins, "(beginning, address)"),
    (bits.within, "(one, other)"),
    (bits.shared, "(one, other)"),
    (bits.least, "(beginning)"),
    (bits.greatest, "(beginning)"),
    (bits.in_order, "(beginnings)"),
    (texts.shown_beginning, "(beginning)"),
    (texts.shown_address, "(address)"),
    (texts.read_beginning, "(text)"),
    (texts.read_address, "(text)"),
    (tables.Table, "()"),
    (tables.Table().put, "(beginning, thing)"),
    (tables.Table().cut, "(beginning)"),
    (tables.Table().get, "(beginning, other=None)"),
    (tables.Table().has, "(beginning)"),
    (tables.Table().count, "()"),
    (tables.Table().longest, "(address, most=16)"),
    (tables.Table().rows, "()"),
    (tables.Table().under, "(beginning)"),
    (marks.better, "(one, other)"),
    (marks.may_use, "(mark, number, far)"),
    (marks.bettered, "(mark, number, length)"),
    (ways.Ways, "()"),
    (ways.Ways().tie, "(neighbour, length)"),
    (ways.Ways().untie, "(neighbour)"),
    (ways.Ways().hear, "(neighbour, goal, number, far)"),
    (ways.Ways().length, "(neighbour)"),
    (ways.Ways().neighbours, "()"),
    (ways.Ways().goals, "()"),
    (ways.Ways().mark, "(goal)"),
    (ways.Ways().way, "(goal)"),
    (notes.is_note, "(thing)"),
    (houses.House, "(number)"),
    (houses.House(0).own, "(beginning)"),
    (houses.House(0).meet, "(neighbour, length)"),
    (houses.House(0).lose, "(neighbour)"),
    (houses.House(0).hear, "(neighbour, note)"),
    (houses.House(0).beginnings, "()"),
    (houses.House(0).neighbours, "()"),
    (houses.House(0).way, "(goal)"),
    (houses.House(0).mark, "(goal)"),
    (houses.House(0).table, "()"),
    (houses.House(0).look, "(address)"),
    (ties.Ties, "()"),
    (ties.Ties().come, "(one, other, length)"),
    (ties.Ties().fall, "(one, other)"),
    (ties.Ties().send, "(one, other, note)"),
    (ties.Ties().carry, "(one, other)"),
    (ties.Ties().length, "(one, other)"),
    (ties.Ties().pairs, "()"),
    (ties.Ties().waiting, "()"),
    (ties.Ties().notes, "(one, other)"),
    (deeds.is_deed, "(thing)"),
    (picks.first_of, "(waiting)"),
    (picks.last_of, "(waiting)"),
    (picks.by_turns, "(start)"),
    (picks.by_turns(0), "(waiting)"),
    (nets.Net, "(count)"),
    (nets.Net(1).do, "(deed)"),
    (nets.Net(1).rest, "(pick, most=None)"),
    (nets.Net(1).house, "(number)"),
    (nets.Net(1).ties, "()"),
    (nets.Net(1).waiting, "()"),
    (nets.Net(1).count, "()"),
    (nets.Net(1).log, "()"),
    (shortest.fars, "(ties, start)"),
    (shortest.due_way, "(ties, house, goal)"),
    (shortest.due_rows, "(net, house)"),
    (roads.road, "(net, house, address)"),
    (roads.stairs, "(net, goal)"),
    (rows.asked_by, "(row)"),
    (plays.play, "(text)"),
)


def tree_of(name):
    return ast.parse((PACKAGE / (name + ".py")).read_text())


class Interface(unittest.TestCase):
    def test_arguments(self):
        for function, arguments in FUNCTIONS:
            with self.subTest(function=function):
                self.assertEqual(str(inspect.signature(function)), arguments)

    def test_init_binds_nothing(self):
        kept = [node for node in tree_of("__init__").body if not isinstance(node, ast.Expr)]
        self.assertEqual(kept, [])

    def test_every_file_has_its_place(self):
        found = {path.name for path in PACKAGE.iterdir() if path.name != "__pycache__"}
        self.assertEqual(found, {name + ".py" for name in FILES + ("__init__",)})

    def test_files_draw_from_those_ahead_alone(self):
        for place, name in enumerate(FILES):
            ahead = {"posthouse." + other for other in FILES[:place]}
            for node in ast.walk(tree_of(name)):
                with self.subTest(file=name):
                    self.assertNotIsInstance(node, ast.Import)
                    if isinstance(node, ast.ImportFrom):
                        self.assertEqual(node.level, 0)
                        self.assertIn(node.module, ahead)


if __name__ == "__main__":
    unittest.main()
