import random
import unittest

from helmsum.errors import NoText, SumError
from helmsum.systems import System
from helmsum.texts import read_number, read_row, read_system, show_number, show_row, show_system

from helping import STRANGE, all_sorts, check_number, check_row, fields, is_system, row_of, some_row, some_system, told

NO_WHOLES = [
    "", " ", "-", "+", "+1", "-0", "00", "01", "-01", "007", "--1", "1-", "- 1", "-+1", "1.0", "1,000", "1_000", "1e3",
    "0x1", "0b1", "1 ", " 1", "1\n", "\n1", "\t1", "1\t", "1\r", "a", "one", "None", "(1, 1)", "1;", "1'", "l", "O",
    "\u0661", "\u00b2", "\u2460", "\uff11", "\u22121", "1\u00a0", "1\x00", "~", "*", "1*",
]
NO_NUMBER_TEXTS = NO_WHOLES + [
    "2/4", "3/1", "0/5", "0/1", "-0/5", "-2/4", "6/3", "1/0", "0/0", "-1/0", "1/-2", "-1/-2", "1/+2", "+1/2", "1/02",
    "01/2", "1/00", "1/2/3", "1//2", "/", "/2", "1/", "-/2", "1 /2", "1/ 2", "1/2 ", " 1/2", "1/2\n", "1/1", "-7/1",
    "10/100", "1/a", "a/2", "1\\2", "1:2", "1/2.0", "1/2/", "/1/2", "\u00bd", "1/\u0662", "1\u20442",
    "0" * 5000, "1/" + "0" * 5000, "-" + "0" * 5000, "1/1" + "0" * 30 + "x", "2" * 900 + "/" + "4" * 900,
]


def check_refused(case, function, thing):
    with case.assertRaises(NoText) as caught:
        function(thing)
    case.assertIs(type(caught.exception).__base__, SumError)


def no_texts():
    """Things that are no texts at all."""
    return [thing for thing in STRANGE if not isinstance(thing, str)] + [[""], ["1"], ("1",), b"1", bytearray(b"1")]


class Numbers(unittest.TestCase):
    def check(self, number, text):
        self.assertEqual(told(self, show_number, number), text)
        answer = told(self, read_number, text)
        check_number(self, answer)
        self.assertEqual(answer, number)

    def test_by_hand(self):
        for number, text in [
            ((0, 1), "0"), ((1, 1), "1"), ((-1, 1), "-1"), ((1, 2), "1/2"), ((-1, 2), "-1/2"), ((10, 1), "10"),
            ((-100, 1), "-100"), ((7, 10), "7/10"), ((10, 7), "10/7"), ((-22, 7), "-22/7"), ((1, 100), "1/100"),
            ((123456789, 1), "123456789"), ((-9, 1), "-9"), ((2, 3), "2/3"), ((1000000, 999999), "1000000/999999"),
        ]:
            self.check(number, text)

    def test_each_figure(self):
        for top in range(-120, 121):
            self.check((top, 1), str(top))

    def test_drawn_numbers(self):
        chance = random.Random(1)
        for figures in [1, 2, 6, 61, 300]:
            for number in some_row(chance, 20, 10 ** figures):
                text = show_number(number)
                self.assertRegex(text, r"\A(0|-?[1-9][0-9]*)(/[1-9][0-9]*)?\Z")
                self.assertEqual(text.partition("/")[0], str(number[0]))
                self.assertEqual(text.partition("/")[2], "" if number[1] == 1 else str(number[1]))
                self.check(number, text)

    def test_up_to_a_thousand_figures(self):
        nines = "9" * 1000
        ones = "1" + "0" * 999
        for top, bottom in [(nines, "1"), ("-" + nines, "1"), (ones, nines), ("-" + nines, ones), ("1", ones)]:
            text = top if bottom == "1" else top + "/" + bottom
            self.check((int(top), int(bottom)), text)

    def test_what_writes_no_number(self):
        for text in NO_NUMBER_TEXTS:
            check_refused(self, read_number, text)
        check_refused(self, read_number, "1 2")

    def test_no_texts(self):
        for thing in no_texts():
            check_refused(self, read_number, thing)

    def test_texts_with_one_sign_more_or_another(self):
        for text in ["0", "7", "-7", "3/4", "-12/35"]:
            for place in range(len(text) + 1):
                for sign in " +-_/.,a\n\t0":
                    self.check_only_what_is_shown(text[:place] + sign + text[place:])
                    self.check_only_what_is_shown(text[:place] + sign + text[place + 1:])
                self.check_only_what_is_shown(text[:place] + text[place + 1:])

    def check_only_what_is_shown(self, text):
        try:
            number = read_number(text)
        except NoText:
            return
        check_number(self, number)
        self.assertEqual(show_number(number), text)


class Rows(unittest.TestCase):
    def check(self, row, text):
        self.assertEqual(told(self, show_row, row), text)
        answer = told(self, read_row, text)
        check_row(self, answer, len(row))
        self.assertEqual(answer, row)

    def test_by_hand(self):
        self.check([], "")
        self.check(row_of(0), "0")
        self.check([(1, 2)], "1/2")
        self.check([(1, 1), (-1, 2), (0, 1), (30, 7)], "1 -1/2 0 30/7")

    def test_drawn_rows(self):
        chance = random.Random(2)
        for many in range(14):
            for most in [3, 1000, 10 ** 40]:
                row = some_row(chance, many, most)
                self.check(row, " ".join([show_number(number) for number in row]))

    def test_what_writes_no_row(self):
        wrong = [" ", "  ", "1 ", " 1", "1  2", " 1 2", "1 2 ", "1\n2", "1\t2", "1, 2", "1,2", "1;2", "[1]", "1 2\n"]
        for text in wrong:
            check_refused(self, read_row, text)
        for word in NO_NUMBER_TEXTS:
            check_refused(self, read_row, word + " 1")
            check_refused(self, read_row, "1 " + word)
            check_refused(self, read_row, "1 " + word + " 1/2")
            if word != "":
                check_refused(self, read_row, word)

    def test_no_texts(self):
        for thing in no_texts():
            check_refused(self, read_row, thing)

    def test_what_only_seems_like_the_text_without_signs(self):
        class Alike:
            def __eq__(self, other):
                return True

        check_refused(self, read_row, Alike())
        check_refused(self, read_row, [""])


class Systems(unittest.TestCase):
    EXAMPLE = "2 1 1 move 0 1 -1/2 3 put 0 1 look 1 0"

    def check(self, system, text):
        self.assertEqual(told(self, show_system, system), text)
        answer = told(self, read_system, text)
        self.assertTrue(is_system(answer))
        self.assertEqual(fields(answer), fields(system))

    def test_by_hand(self):
        system = System([row_of(0, 1), [(-1, 2), (3, 1)]], [row_of(0, 1)], [row_of(1, 0)])
        self.check(system, self.EXAMPLE)
        self.check(System([], [[]], [[]]), "0 1 1 move put look")
        self.check(System([], [], []), "0 0 0 move put look")
        self.check(System([], [[]] * 4, [[]] * 3), "0 4 3 move put look")
        self.check(System([row_of(5)], [], []), "1 0 0 move 5 put look")
        self.check(System([row_of(5)], [row_of(1), row_of(2)], []), "1 2 0 move 5 put 1 2 look")
        self.check(System([row_of(5)], [], [[(2, 3)]]), "1 0 1 move 5 put look 2/3")
        wide = System([row_of(1, 2), row_of(3, 4)], [row_of(5, 6), row_of(7, 8)], [row_of(9, 10), row_of(11, 12)])
        self.check(wide, "2 2 2 move 1 2 3 4 put 5 6 7 8 look 9 10 11 12")

    def test_all_sorts(self):
        chance = random.Random(3)
        systems = all_sorts(4) + [some_system(chance, 8, 4, 4, 10 ** 6), some_system(chance, 3, 2, 1, 10 ** 400)]
        for system in systems:
            words = [str(size) for size in [system.states, system.ins, system.outs]]
            for name, rows in [("move", system.move), ("put", system.put), ("look", system.look)]:
                words += [name] + [show_number(number) for row in rows for number in row]
            self.check(system, " ".join(words))

    def test_what_writes_no_system(self):
        for text in [
            "", " ", "2", "2 1", "2 1 1", "2 1 1 move", "move put look", "0 1 move put look", "0 0 0 move put",
            "0 0 0 0 move put look", "0 0 0 put move look", "0 0 0 move look put", "0 0 0 Move put look",
            "0 0 0 move put look look", "0 0 0 move put look 0", "0 0 0 move 0 put look", "0 0 0 move put 0 look",
            "0 0 0 moveputlook", "1 0 0 move put 5 look", "1 0 0 move put look 5", "1 0 0 5 move put look",
            "1 1 0 move 5 put look 1", "1 0 1 move 5 put 1 look", "1 1 1 move 5 put 1 look", "1 1 1 move 5 put look 1",
            "1 0 0 move 5 6 put look", "-1 0 0 move 1 put look", "0 -1 0 move put look", "0 0 -1 move put look",
            "1/2 0 0 move put look", "00 0 0 move put look", "0 00 0 move put look", "0 0 01 move put look",
            "+0 0 0 move put look", "-0 0 0 move put look", "x 0 0 move put look", "0 x 0 move put look",
            "0 0 0  move put look", "0 0 0 move  put look", "0 0 0 move put  look", " 0 0 0 move put look",
            "0 0 0 move put look ", "0  0 0 move put look", "0 0 0 move put look\n", "0 0 0\tmove put look",
            "0 0 0 move put\nlook",
        ]:
            check_refused(self, read_system, text)

    def test_what_a_system_refuses(self):
        noughts = " ".join(["0"] * 81)
        check_refused(self, read_system, "9 0 0 move " + noughts + " put look")
        check_refused(self, read_system, "0 5 0 move put look")
        check_refused(self, read_system, "0 0 5 move put look")
        check_refused(self, read_system, "1 5 0 move 1 put 1 2 3 4 5 look")
        check_refused(self, read_system, "1 0 5 move 1 put look 1 2 3 4 5")
        for great in ["1" + "0" * 12, "9" * 1000, "1" + "0" * 5000]:
            for place in range(3):
                words = ["0", "0", "0", "move", "put", "look"]
                words[place] = great
                check_refused(self, read_system, " ".join(words))
        self.check(System([row_of(*[0] * 8)] * 8, [], []), "8 0 0 move " + " ".join(["0"] * 64) + " put look")

    def test_words_lacking_doubled_and_changed(self):
        words = self.EXAMPLE.split(" ")
        for place in range(len(words)):
            check_refused(self, read_system, " ".join(words[:place] + words[place + 1:]))
            check_refused(self, read_system, " ".join(words[:place + 1] + words[place:]))
            check_refused(self, read_system, " ".join(words[:place] + [""] + words[place:]))
            for word in ["2/4", "-0", "+1", "01", "1/0", "x", "", "move", "put", "look"]:
                if word != words[place]:
                    check_refused(self, read_system, " ".join(words[:place] + [word] + words[place + 1:]))
        check_refused(self, read_system, self.EXAMPLE + " ")
        check_refused(self, read_system, self.EXAMPLE.replace("2 1 1", "1 2 1"))
        check_refused(self, read_system, self.EXAMPLE.replace("2 1 1", "2 2 0"))
        check_refused(self, read_system, self.EXAMPLE.replace("2 1 1", "2 0 2"))

    def test_numbers_that_are_none(self):
        for word in NO_NUMBER_TEXTS:
            check_refused(self, read_system, "1 1 1 move " + word + " put 1 look 1")
            check_refused(self, read_system, "1 1 1 move 1 put " + word + " look 1")
            check_refused(self, read_system, "1 1 1 move 1 put 1 look " + word)

    def test_no_texts(self):
        for thing in no_texts() + [System([], [], [])]:
            check_refused(self, read_system, thing)


if __name__ == "__main__":
    unittest.main()
