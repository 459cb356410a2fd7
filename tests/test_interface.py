"""The interface: each name is there, with its arguments."""

import importlib
import inspect
import unittest

from foreverrows.desk import Desk

INTERFACE = {
    "grids": "plain_grid(n) added(one, other) taken_off(one, other) multiplied(one, other) powered(grid, many) "
             "stepped(grid, step)",
    "corners": "determinant(grid) corner_form(grid) turned_back(grid)",
    "tables": "vet(table) arrows_of(table) walk_between(table, i, j)",
    "nets": "parts_of(table) hangs_together(table) is_ring(table) beat_of(table)",
    "bars": "vet_bars(signs, bars) width_of(signs, bars)",
    "windows": "windows_of(signs, bars) stands(signs, bars, word) reader_of(signs, bars) "
               "bridge(signs, bars, one, other)",
    "readers": "vet_reader(reader) reads(reader, word) together(reader) one_way(reader) sets_of(reader)",
    "leastnets": "least_net(reader) telling_word(reader) parting_word(reader, p, q)",
    "likeness": "same_rows(one, other) window_length(reader)",
    "rounds": "rounds(table, n) round_polynomial(table) rounds_by(polynomial, n) rounds_walked(table, n) "
              "first_rounds(table, n)",
    "markrounds": "mark_rounds(reader, n)",
    "polynomials": "common_part(one, other) roots_between(polynomial, low, high) wide_polynomial(table)",
    "growth": "growth_held(table, figures) growths_held(one, other)",
    "splits": "split_done(table, move) split_back(table, move)",
    "splitrows": "row_split(table, move, row) row_split_back(table, move, row)",
    "draws": "draw_done(table, move) draw_back(table, move) row_drawn(table, move, row)",
    "groups": "group_of(table) sign_of(table) same_class(table, one, other)",
    "additions": "addition_done(table, move) addition_back(table, move) paper_of(table, move) "
                 "row_added(table, move, row)",
    "fulltables": "to_full(table) raised(full, places)",
    "plainroads": "plain_table(places, orders, sign) road_to_plain(table, places)",
    "flows": "flow(one, other)",
    "looker": "move_done(table, move) move_back(table, move) moves_done(table, moves) moves_back(table, moves)",
    "notes": "table_shown(table) table_read(text) move_shown(move) move_read(text)",
}


class InterfaceTest(unittest.TestCase):

    def test_functions(self):
        for name, listed in INTERFACE.items():
            module = importlib.import_module("foreverrows." + name)
            for line in listed.replace(") ", ")\n").split("\n"):
                deed = getattr(module, line.split("(")[0])
                self.assertEqual(line, line.split("(")[0] + str(inspect.signature(deed)))
                self.assertEqual("foreverrows." + name, deed.__module__)

    def test_desk(self):
        self.assertEqual("()", str(inspect.signature(Desk)))
        self.assertEqual("(self, row)", str(inspect.signature(Desk.say)))


if __name__ == "__main__":
    unittest.main()
