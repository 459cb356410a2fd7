"""Point [48], and [2] of the same functions."""

import unittest

from foreverrows.errors import NoText, RowError
from foreverrows.notes import move_read, move_shown, table_read, table_shown
from tests.helper import NINE_WORDS, chance, check_own, check_refused, flowing_tables, moves_by_chance

HUNDRED = int("1234567890" * 10)
LONG = 10 ** 5000 + 7

TABLES = [
    ([[2]], "2"), ([[1, 1], [1, 0]], "1 1;1 0"), ([[0]], "0"), ([[-1]], "-1"), ([[10, 200, 3000]], "10 200 3000"),
    ([[1], [2], [3]], "1;2;3"), ([[1, 2], [3], [4, 5, 6]], "1 2;3;4 5 6"), ([[0, -10], [-3, 0]], "0 -10;-3 0"),
    ([[HUNDRED, -HUNDRED]], "1234567890" * 10 + " -" + "1234567890" * 10),
    ([[10 ** 99, -(10 ** 99)], [10 ** 64, 10 ** 64 - 1]],
     "1" + "0" * 99 + " -1" + "0" * 99 + ";1" + "0" * 64 + " " + "9" * 64),
]
MOVES = [
    (("swap", 0, 1), "swap 0 1"), (("swap", -1, HUNDRED), "swap -1 " + "1234567890" * 10),
    (("out", 0, [[(0, 0, 0)], [(0, 1, 0), (0, 1, 1)]]), "out 0 / 0-0-0 / 0-1-0 0-1-1"),
    (("in", 3, [[(0, 3, 10), (2, 3, 0)], [(1, 3, 0)], [(0, 3, 9)]]), "in 3 / 0-3-10 2-3-0 / 1-3-0 / 0-3-9"),
    (("out", -2, [[(7, 8, 9)], [(HUNDRED, 0, 1)]]), "out -2 / 7-8-9 / " + "1234567890" * 10 + "-0-1"),
    (("join out", 0, 2), "join-out 0 2"), (("join in", 1, -3), "join-in 1 -3"), (("draw", 4), "draw 4"),
    (("draw", -4), "draw -4"), (("lay", 1, [2, 0], [3, 1]), "lay 1 / 2 0 / 3 1"),
    (("lay", -1, [-2], [0, 5, HUNDRED]), "lay -1 / -2 / 0 5 " + "1234567890" * 10),
    (("row", 0, 1, 5), "row 0 1 5"), (("row", 0, 1, -HUNDRED), "row 0 1 -" + "1234567890" * 10),
    (("column", 2, 0, -1), "column 2 0 -1"), (("column", 0, 0, 0), "column 0 0 0"),
]
WRONG_NUMBERS = [
    "", "-", "--1", "-0", "+1", "00", "01", "-01", "007", "1_0", "1,0", "1.0", "1e3", "0x1", "a", "1a", "a1", "1-",
    "1-1",
    "-1-", "1+1", "\t1", "1\n", "\n1", "1\t", "\u0661", "\u00b2", "\uff11", "1\u00a0", "*", "/", ".", "1/2", "None",
]


def move_by_chance(lot, word):
    """Any tuple of the form of a move, whether it can be done or not."""

    def number():
        return lot.choice([0, 1, 2, 10, -1, -20, lot.randint(-HUNDRED, HUNDRED)])

    def arrow():
        return tuple([lot.choice([0, 1, 10, lot.randint(0, HUNDRED)]) for part in range(3)])

    if word in ("out", "in"):
        sizes = [lot.randint(1, 3) for piece in range(lot.randint(2, 4))]
        return (word, number(), [[arrow() for part in range(size)] for size in sizes])
    if word == "lay":
        return (word, number(), *[[number() for place in range(lot.randint(1, 4))] for part in range(2)])
    many = {"swap": 2, "join out": 2, "join in": 2, "draw": 1, "row": 3, "column": 3}[word]
    return (word, *[number() for part in range(many)])


class TableTest(unittest.TestCase):

    def test_written_and_read(self):
        for table, text in TABLES:
            self.assertEqual(text, check_own(self, table_shown, table))
            self.assertEqual(table, check_own(self, table_read, text))

    def test_many_ones(self):
        lot = chance(271)
        for time in range(150):
            most = lot.choice([1, 9, 1000, HUNDRED])
            sizes = [lot.randint(1, 5) for row in range(lot.randint(1, 5))]
            table = [[lot.randint(-most, most) for entry in range(size)] for size in sizes]
            text = check_own(self, table_shown, table)
            self.assertRegex(text, r"\A-?[0-9]+([ ;]-?[0-9]+)*\Z")
            self.assertEqual(table, check_own(self, table_read, text))

    def test_thousands_of_figures(self):
        text = "1" + "0" * 4999 + "7"
        self.assertEqual(text + ";-" + text, table_shown([[LONG], [-LONG]]))
        self.assertEqual([[LONG], [-LONG]], table_read(text + ";-" + text))

    def test_no_text(self):
        for wrong in WRONG_NUMBERS:
            check_refused(self, NoText, table_read, wrong)
            for text in ("1 " + wrong, wrong + " 1", "1;" + wrong, wrong + ";1", "1 2;3 " + wrong + " 4"):
                check_refused(self, NoText, table_read, text)

    def test_every_other_sign(self):
        for sign in [chr(code) for code in list(range(32)) + list(range(58, 130))] + list("!#$%&'()*+,./"):
            if sign != ";":
                for wrong in (sign, "1" + sign, sign + "1", "1" + sign + "1"):
                    check_refused(self, NoText, table_read, wrong)
                    check_refused(self, NoText, move_read, "draw " + wrong)

    def test_blanks_and_rows(self):
        for wrong in (" ", "  ", " 1", "1 ", "1  2", "1 ;2", "1; 2", "1 ; 2", ";", ";;", "1;", ";1", "1;;2",
        "1 1;1 0;",
                      "1 1; 1 0", " 1 1;1 0", "1 1;1 0 ", "1 1;1  0", "1,1;1,0", "1:1", "[[1]]", "1 1\n1 0", "1|1",
                      "1\t1", "table 1"):
            check_refused(self, NoText, table_read, wrong)


class MoveTest(unittest.TestCase):

    def test_written_and_read(self):
        for move, text in MOVES:
            self.assertEqual(text, check_own(self, move_shown, move))
            self.assertEqual(move, check_own(self, move_read, text))
        self.assertEqual(NINE_WORDS, {move[0] for move, text in MOVES})

    def test_many_ones(self):
        lot = chance(272)
        for word in sorted(NINE_WORDS):
            for time in range(40):
                move = move_by_chance(lot, word)
                text = check_own(self, move_shown, move)
                told = check_own(self, move_read, text)
                self.assertEqual(move, told)
                self.assertIs(tuple, told.__class__)

    def test_moves_that_can_be_done(self):
        lot = chance(273)
        words = set()
        for table in flowing_tables(274, 40):
            for move in moves_by_chance(lot, table):
                self.assertEqual(move, move_read(move_shown(move)))
                words.add(move[0])
        self.assertLessEqual({"swap", "out", "in", "draw", "lay", "row", "column"}, words)

    def check_wrong(self, *texts):
        for text in texts:
            check_refused(self, NoText, move_read, text)

    def test_blanks(self):
        for move, text in MOVES:
            self.check_wrong(" " + text, text + " ", text + "\n", "\n" + text, text.replace(" ", "\t", 1))
            for at in [at for at, sign in enumerate(text) if sign == " "]:
                self.check_wrong(text[:at] + "  " + text[at + 1:])

    def test_words_too_few_and_too_many(self):
        self.check_wrong("", " ", "swap", "swap 0", "swap 0 1 2", "join-out 0", "join-out 0 1 2", "join-in",
                         "join-in 1",
                         "draw", "draw 0 1", "row 0 1", "row", "row 0 1 2 3", "column 0 1", "column 0 1 2 3", "out",
                         "in",
                         "out 0", "in 0", "lay", "lay 0", "out 0 1 / 0-0-0 / 0-0-1", "in / 0-0-0 / 0-0-1",
                         "lay / 1 / 1", "lay 0 1 / 1 / 1")

    def test_other_words(self):
        self.check_wrong("join out 0 1", "join in 0 1", "join 0 1", "joinout 0 1", "join_out 0 1", "Swap 0 1",
                         "SWAP 0 1",
                         "swaps 0 1", "split 0 / 0-0-0 / 0-0-1", "0 1", "0", "/", "move draw 0", "col 0 1 1",
                         "rows 0 1 1",
                         "join-out-0-1", "(draw, 0)")

    def test_numbers_written_otherwise(self):
        for wrong in WRONG_NUMBERS:
            for text in ("swap 0 N", "swap N 1", "join-out N 1", "join-in 0 N", "draw N", "row N 1 1", "row 0 1 N",
                         "column 0 N 1", "lay N / 1 / 1", "lay 0 / N / 1", "lay 0 / 1 / N", "lay 0 / 1 N / 1",
                         "out N / 0-0-0 / 0-0-1", "in N / 0-0-0 / 0-0-1"):
                self.check_wrong(text.replace("N", wrong))
            for text in ("out 0 / N-0-0 / 0-0-1", "out 0 / 0-N-0 / 0-0-1", "in 0 / 0-0-0 / 0-0-N"):
                self.check_wrong(text.replace("N", wrong))

    def test_arrows(self):
        self.check_wrong("out 0 / -1-0-0 / 0-0-1", "out 0 / 0--1-0 / 0-0-1", "out 0 / 0-0--1 / 0-0-1",
                         "in 0 / 0-0-0 / 0-0--1", "out 0 / 0-0 / 0-0-1", "out 0 / 0-0-0-0 / 0-0-1",
                         "out 0 / 0 / 0-0-1",
                         "out 0 / 0-0-0 / 0-0-1-", "out 0 / 0 0 0 / 0 0 1", "out 0 / 0,0,0 / 0-0-1",
                         "out 0 / (0-0-0) / 0-0-1", "out 0 / 0-0-0 / 1-1-1-1")

    def test_pieces(self):
        self.check_wrong("out 0 / 0-0-0", "in 0 / 0-0-0 0-0-1", "out 0 /", "out 0 / /", "out 0 / 0-0-0 /",
                         "out 0 / / 0-0-0", "in 0 / 0-0-0 / / 0-0-1", "in 0 / 0-0-0 / 0-0-1 /", "out 0 0-0-0 / 0-0-1",
                         "out 0 /0-0-0 / 0-0-1", "out 0 / 0-0-0/ 0-0-1", "out 0 // 0-0-0 / 0-0-1",
                         "out 0 / 0-0-0 0-0-1",
                         "out / 0 / 0-0-0 / 0-0-1", "out 0 / 0-0-0 ; 0-0-1")

    def test_ins_and_outs(self):
        self.check_wrong("lay 0 / 1", "lay 0 / / 1", "lay 0 / 1 /", "lay 0 / 1 / ", "lay 0 / /", "lay 0 /",
                         "lay 0 1 1",
                         "lay 0 1 / 1", "lay 0 / 1 / 1 / 1", "lay 0 / 1 / 1 /", "lay 0 // 1 / 1", "lay 0 / 1-1 / 1",
                         "lay 0 / 1,0 / 1", "lay 0 / 1 1", "lay 0 /  / 1")

    def test_of_its_own_class_alone(self):
        for deed in (table_read, move_read):
            with self.assertRaises(ValueError) as caught:
                deed("")
            self.assertIs(NoText, caught.exception.__class__)
            self.assertIsInstance(caught.exception, RowError)


class OtherQuestionsTest(unittest.TestCase):

    def test_an_answer_is_the_same_behind_other_questions(self):
        first = [(table_read(text), table_shown(table)) for table, text in TABLES]
        beside = [(move_read(text), move_shown(move)) for move, text in MOVES]
        self.assertEqual(beside[::-1], [(move_read(text), move_shown(move)) for move, text in MOVES[::-1]])
        self.assertEqual(first[::-1], [(table_read(text), table_shown(table)) for table, text in TABLES[::-1]])


if __name__ == "__main__":
    unittest.main()
