"""Point [49], and [2] of the desk."""

import unittest

from foreverrows.desk import Desk
from foreverrows.errors import NoBars, NoMove, NoRow, NoTable, NoWhole, Ring, RowError, TooMany
from foreverrows.flows import flow
from foreverrows.groups import group_of, sign_of
from foreverrows.looker import move_done
from foreverrows.nets import beat_of
from foreverrows.notes import move_shown, table_shown
from foreverrows.rounds import rounds
from foreverrows.windows import stands, windows_of
from tests.helper import NINE_WORDS, chance, flowing_tables, moves_by_chance, table_by_chance

HUNDRED = "1234567890" * 10
QUESTIONS = ["show", "parts", "beat", "rounds 1", "rounds 24", "group", "sign", "flow 2", "windows", "stands ab",
             "stands ba", "stands bb", "stands c"]
# Rows that are refused of any desk, in whatever state.
NO_ROWS = [
    "", " ", "  ", "Show", "SHOW", "shows", "help", "ok", "quit", "[[2]]", "2", "1 1;1 0", "draw 0", "swap 0 1",
    "none",
    # Words too few and too many.
    "table", "move", "rounds", "flow", "bars", "stands", "show 1", "show show", "parts 0", "beat 1", "group 1",
    "sign 1",
    "windows 1", "rounds 1 2", "stands ab ba", "show table",
    # Blanks ahead, behind and twice.
    " show", "show ", " table 2", "table 2 ", "table  2", "table 1 1;1  0", " move swap 0 1", "move  swap 0 1",
    "move swap 0 1 ", "move swap  0 1", " rounds 3", "rounds 3 ", "rounds  3", "parts ", " parts", "beat ", "group ",
    "sign ", "windows ", " windows", " flow 2", "flow 2 ", "flow  2", " bars 2", "bars  2", " stands a", "stands a ",
    "stands  a", "table ", "move ", "rounds ", "flow ", "bars ",
    # Numbers written otherwise.
    "rounds 03", "rounds +3", "rounds -0", "rounds x", "rounds 3.0", "rounds 1_0", "rounds three", "rounds 3\n",
    "bars 02", "bars +2", "bars two", "bars 2.0", "bars bb", "bars 2,bb", "bars -0",
    # Too few or too many steps.
    "rounds 0", "rounds 25", "rounds -1", "rounds 100", "rounds " + HUNDRED,
    # Tables written otherwise.
    "table 01", "table +1", "table -0", "table a", "table 1,1;1,0", "table 1 1;", "table ;1", "table 1;;1",
    "table 1; 1",
    "table 1 ;1", "table [[2]]", "table 1_0", "table 1 1\n1 0", "flow 01", "flow +1", "flow a", "flow 1 1;",
    "flow 1; 1",
    "flow [[2]]", "flow 1,1;1,0",
    # Moves written otherwise.
    "move swap", "move swap 0", "move swap 0 1 2", "move swap 0 01", "move join out 0 1", "move Draw 0", "move draw",
    "move 0", "move out 0 / 0-0-0", "move out 0 / 0-0-0 /", "move in 0 / -1-0-0 / 0-0-0", "move lay 0 / 1",
    "move lay 0 / / 1",
    "move row 0 1", "move row 0 1 +1", "move column 0 1 1 1", "move moves", "move move draw 0", "move (draw,0)",
]


def asked(desk):
    """What a desk answers to all questions, refusals too."""
    told = []
    for row in QUESTIONS:
        try:
            told.append(desk.say(row))
        except RowError as error:
            told.append(error.__class__)
    return told


def told_desk(*rows):
    desk = Desk()
    for row in rows:
        desk.say(row)
    return desk


DESKS = [
    (), ("table 1 1;1 0",), ("table 1 1;0 1", "bars 3 ab c"), ("table 0 1;1 0", "bars 2 a b"),
    ("table 3 1;1 3", "move row 0 1 2", "bars 2 bb"), ("table 40", "move lay 0 / 5 / 8", "bars 4 aa bb"),
]


class AnswersTest(unittest.TestCase):

    def check_said(self, desk, *pairs):
        for row, answer in pairs:
            self.assertEqual(answer, desk.say(row), row)

    def test_a_new_desk(self):
        self.check_said(Desk(), ("show", "2"), ("parts", "0"), ("beat", "1"), ("rounds 1", "2"), ("rounds 24",
                        "16777216"),
                        ("group", "none"), ("sign", "-1"), ("flow 1 1;1 0", "road"), ("flow 3", "group"),
                        ("flow 2 1;1 3", "sign"), ("windows", "a b"), ("stands abba", "yes"), ("stands c", "no"),
                        ("show", "2"))

    def test_table_and_move(self):
        desk = Desk()
        self.check_said(desk, ("table 1 1;1 0", "ok"), ("show", "1 1;1 0"), ("rounds 24", "103682"), ("parts", "0,1"),
                        ("move draw 1", "ok"), ("show", "2"), ("move lay 1 / 1 / 1", "ok"), ("show", "1 1;1 0"),
                        ("move out 0 / 0-0-0 / 0-1-0", "ok"), ("show", "1 0 1;1 0 1;0 1 0"), ("rounds 24", "103682"),
                        ("move join-out 0 1", "ok"), ("show", "1 1;1 0"), ("move swap 1 0", "ok"), ("show", "0 1;1 1"),
                        ("table 40", "ok"), ("show", "40"), ("group", "39"))

    def test_parts(self):
        desk = Desk()
        self.check_said(desk, ("table 1 1;0 1", "ok"), ("parts", "0 1"), ("table 0 0 1;0 1 0;1 0 0", "ok"),
                        ("parts", "0,2 1"), ("table 0 1 0;0 0 1;1 0 0", "ok"), ("parts", "0,1,2"), ("beat", "3"),
                        ("table 0", "ok"), ("parts", "0"))

    def test_group_and_sign(self):
        desk = Desk()
        self.check_said(desk, ("table 7 0;0 3", "ok"), ("group", "2 6"), ("sign", "1"), ("table 2 1;1 2", "ok"),
                        ("group", "0"), ("sign", "0"), ("table 3 2 2;2 3 2;2 2 3", "ok"), ("group", "2 0 0"),
                        ("table 1 0;0 1", "ok"), ("group", "0 0"), ("table 0", "ok"), ("group", "none"), ("sign", "1"))

    def test_flow(self):
        desk = told_desk("table 0 2;2 0")
        self.check_said(desk, ("flow 4", "road"), ("flow 2", "group"), ("flow 2 1;1 5", "sign"), ("flow 0 2;2 0",
                        "road"),
                        ("show", "0 2;2 0"))

    def test_bars(self):
        desk = Desk()
        self.check_said(desk, ("bars 2 bb", "ok"), ("windows", "a b"), ("stands abba", "no"), ("stands abab", "yes"),
                        ("bars 3", "ok"), ("windows", "a b c"), ("stands c", "yes"), ("bars 2 a b", "ok"),
                        ("windows", "none"), ("stands a", "no"), ("bars 2 aab ba", "ok"), ("windows", "aa bb"),
                        ("stands ab", "no"), ("bars 4 bb bb", "ok"), ("windows", "a b c d"), ("stands abx", "no"))

    def test_split_at_each_blank(self):
        """So behind the last blank of a row a word without signs may stand."""
        self.assertEqual("yes", Desk().say("stands "))
        self.assertEqual("no", told_desk("bars 2 a b").say("stands "))
        for row in ("bars 2 ", "bars 2 bb ", "bars 2  bb"):
            with self.assertRaises(NoBars):
                Desk().say(row)

    def test_many_tables(self):
        lot = chance(281)
        desk = Desk()
        for time in range(60):
            table = table_by_chance(lot)
            orders, free = group_of(table)
            n = lot.randint(1, 24)
            self.check_said(desk, ("table " + table_shown(table), "ok"), ("show", table_shown(table)),
                            (f"rounds {n}", str(rounds(table, n))), ("sign", str(sign_of(table))),
                            ("group", " ".join([str(order) for order in orders + [0] * free]) or "none"))

    def test_many_flows_and_beats(self):
        tables = flowing_tables(282, 20)
        desk = Desk()
        for one, other in zip(tables, tables[1:]):
            self.check_said(desk, ("table " + table_shown(one), "ok"), ("flow " + table_shown(other), flow(one,
                            other)[0]),
                            ("beat", str(beat_of(one)[0])), ("show", table_shown(one)))

    def test_many_moves(self):
        lot = chance(283)
        desk = Desk()
        words = set()
        for table in flowing_tables(284, 40):
            desk.say("table " + table_shown(table))
            for step in range(4):
                fit = moves_by_chance(lot, table)
                word = lot.choice(sorted({move[0] for move in fit}))
                move = lot.choice([move for move in fit if move[0] == word])
                table = move_done(table, move)
                words.add(word)
                self.check_said(desk, ("move " + move_shown(move), "ok"), ("show", table_shown(table)))
        self.assertEqual(NINE_WORDS, words)

    def test_many_bars(self):
        lot = chance(285)
        desk = Desk()
        for time in range(40):
            signs = lot.choice([2, 3])
            bars = ["".join(lot.choices("abc"[:signs], k=lot.randint(1, 3))) for bar in range(lot.randint(0, 5))]
            word = "".join(lot.choices("abc"[:signs], k=lot.randint(1, 10)))
            self.check_said(desk, (" ".join(["bars", str(signs)] + bars), "ok"),
                            ("windows", " ".join(windows_of(signs, bars)) or "none"),
                            ("stands " + word, "yes" if stands(signs, bars, word) else "no"))

    def test_great_numbers(self):
        desk = told_desk("table 2 1;1 2", "move row 0 1 " + HUNDRED)
        many = int(HUNDRED)
        self.assertEqual(f"{2 + many} {1 + many};1 2", desk.say("show"))
        self.assertEqual("0", desk.say("group"))
        desk.say("move row 0 1 -" + HUNDRED)
        self.assertEqual("2 1;1 2", desk.say("show"))
        # More figures than Python writes at once.
        table = [[2, 1], [1, 2]]
        for move in (("row", 0, 1, many), ("column", 0, 1, many)):
            desk.say("move " + move_shown(move))
            table = move_done(table, move)
        told = desk.say("rounds 24")
        self.assertGreater(len(told), 4300)
        number = 0
        for sign in told:
            number = 10 * number + int(sign)
        self.assertEqual(rounds(table, 24), number)

    def test_tables_beyond_the_bounds(self):
        """A move may lead to more places and arrows than a table that is told has."""
        desk = told_desk("table " + table_shown([[1] * 6] * 6), "move lay 6 / 1 0 0 0 0 0 / 0 1 0 0 0 0",
                         "move row 0 2 1000")
        self.assertEqual(7, len(desk.say("show").split(";")))
        self.assertEqual("0,1,2,3,4,5,6", desk.say("parts"))
        self.assertEqual("1", desk.say("beat"))


class RefusedTest(unittest.TestCase):

    def check_refused(self, error, row, *ahead):
        """It is refused, and nothing is changed."""
        desk = told_desk(*ahead)
        right = asked(told_desk(*ahead))
        with self.assertRaises(error) as caught:
            desk.say(row)
        self.assertIs(error, caught.exception.__class__, row)
        self.assertEqual(right, asked(desk))

    def test_no_row(self):
        for row in NO_ROWS:
            self.check_refused(NoRow, row)
            self.check_refused(NoRow, row, "table 1 1;0 1", "bars 2 bb")

    def test_no_row_of_any_desk(self):
        for ahead in DESKS:
            for row in NO_ROWS[::7]:
                self.check_refused(NoRow, row, *ahead)

    def test_no_table(self):
        for ahead in DESKS:
            for text in ("1 1", "1;1", "1 1;1", "1;1 1", "-1", "1 -1;0 1", "41", "20 1;10 10", HUNDRED,
                         table_shown([[1] * 7] * 7), "1 2 3;4 5 6"):
                self.check_refused(NoTable, "table " + text, *ahead)
                self.check_refused(NoTable, "flow " + text, *ahead)

    def test_no_table_ahead_of_what_the_flow_refuses(self):
        self.check_refused(NoTable, "flow 1 1", "table 1 1;0 1")
        self.check_refused(NoRow, "flow 1 01", "table 1 1;0 1")

    def test_no_move(self):
        for text in ("swap 0 0", "swap 0 1", "swap -1 0", "draw 0", "draw 1", "out 0 / 0-0-0 / 0-0-2",
                     "in 0 / 0-0-0 / 0-0-0", "join-out 0 1", "join-in 0 0", "lay 0 / 1 / 3", "lay 2 / 1 / 1",
                     "lay 0 / 1 1 / 1", "lay 0 / -1 / 1", "row 0 1 1", "column 0 0 1", "row 0 0 0"):
            self.check_refused(NoMove, "move " + text)
        for text in ("row 0 1 0", "row 1 0 -1", "draw 0", "join-in 0 1", "lay 0 / 2 0 / 1 0"):
            self.check_refused(NoMove, "move " + text, "table 1 1;1 0", "bars 2 ab")

    def test_no_whole(self):
        for table in ("1 1;0 1", "0", "2 0;0 2"):
            self.check_refused(NoWhole, "beat", "table " + table)
            self.check_refused(NoWhole, "flow 2", "table " + table)
            self.check_refused(NoWhole, "flow 1", "table " + table)
            self.check_refused(NoWhole, "flow " + table, "table 1 1;1 0")
            self.check_refused(NoWhole, "flow " + table, "table 1")

    def test_ring(self):
        for table in ("1", "0 1;1 0", "0 1 0;0 0 1;1 0 0"):
            self.check_refused(Ring, "flow 2", "table " + table)
            self.check_refused(Ring, "flow " + table)
            self.check_refused(Ring, "flow " + table, "table 1")

    def test_no_bars(self):
        for ahead in DESKS:
            for rest in ("1", "5", "0", "-2", "5 ab", "2 c", "2 ab abc", "2 aaaaaaa", "3 d", "2 A", "4 e", "2 b1",
                         "2 ab,b",
                         "2 2", "2" + " ab" * 13, HUNDRED, "1 a"):
                self.check_refused(NoBars, "bars " + rest, *ahead)

    def test_too_many(self):
        for ahead in DESKS:
            for rest in ("3 aaaaaa", "4 aaaaa", "4 aaaaaa", "3 a abcabc"):
                self.check_refused(TooMany, "bars " + rest, *ahead)
        # NoBars comes first.
        self.check_refused(NoBars, "bars 4 aaaaaa e")

    def test_goes_on_behind_a_refusal(self):
        desk = told_desk("table 1 1;1 0", "bars 2 bb")
        for row in ("table 1 1", "move draw 0", "bars 9", "bars 3 aaaaaa", "rounds 0", "help", "table 41", "flow 1"):
            with self.assertRaises(RowError):
                desk.say(row)
        self.assertEqual("1 1;1 0", desk.say("show"))
        self.assertEqual("no", desk.say("stands bb"))
        self.assertEqual("ok", desk.say("move draw 1"))
        self.assertEqual("2", desk.say("show"))


class TwoDesksTest(unittest.TestCase):

    def test_they_keep_their_own(self):
        one, other = Desk(), Desk()
        one.say("table 1 1;1 0")
        one.say("bars 2 bb")
        self.assertEqual(asked(Desk()), asked(other))
        other.say("table 3")
        other.say("bars 3 aa")
        self.assertEqual(asked(told_desk("table 1 1;1 0", "bars 2 bb")), asked(one))
        self.assertEqual(asked(told_desk("table 3", "bars 3 aa")), asked(other))
        self.assertEqual("2", Desk().say("show"))

    def test_an_answer_is_the_same_behind_other_questions(self):
        for ahead in DESKS:
            desk = told_desk(*ahead)
            first = asked(desk)
            self.assertEqual(first, asked(desk))
            self.assertEqual(first, asked(told_desk(*ahead)))


if __name__ == "__main__":
    unittest.main()
