import random
import unittest

from helmsum.alike import apart
from helmsum.courses import looks_along
from helmsum.desk import Desk
from helmsum.efforts import least
from helmsum.errors import NoFit, NoName, NoText, NotSteered, SumError, Taken, TooMany
from helmsum.joins import added, beside, in_row, ringed
from helmsum.parts import four_parts, smallest
from helmsum.reach import come
from helmsum.shut import shut_off
from helmsum.steering import steered
from helmsum.systems import System
from helmsum.telling import told_by
from helmsum.texts import show_number, show_row, show_system
from helmsum.wishes import closed

from helping import (
    STRANGE, all_sorts, check_row, dot, is_steered, rest, row_of, some_grid, some_row, some_system, some_weights,
)

CART = System([row_of(1, 1), row_of(0, 1)], [row_of(0, 1)], [row_of(1, 0)])
CART_TEXT = "2 1 1 move 1 1 0 1 put 0 1 look 1 0"
EMPTY_TEXT = "0 0 0 move put look"


def shown(*things):
    """The things as words of a line: rows as their numbers, texts and counts as they are."""
    words = []
    for thing in things:
        words += [show_number(number) for number in thing] if isinstance(thing, list) else [str(thing)]
    return " ".join(words)


def lines_of(rows):
    return [show_row(row) for row in rows]


def kept_by(desk):
    """All that a desk keeps, by what it tells."""
    return [(name, desk.say("show " + name)) for name in desk.say("names")]


class OnDesks(unittest.TestCase):
    def desk_with(self, **systems):
        desk = Desk()
        for name, system in systems.items():
            self.assertEqual(desk.say(f"system {name} {show_system(system)}"), [])
        return desk

    def full_desk(self, **systems):
        """A desk with 24 systems, these ahead."""
        desk = self.desk_with(**systems)
        for place in range(24 - len(systems)):
            desk.say(f"system full{chr(97 + place)} {EMPTY_TEXT}")
        self.assertEqual(len(desk.say("names")), 24)
        return desk

    def check(self, desk, line, expected):
        """That the line, which asks, is answered so, and that the asker may change the answer."""
        before = kept_by(desk)
        first = desk.say(line)
        self.assertIs(type(first), list)
        self.assertTrue(all(type(each) is str for each in first))
        self.assertEqual(first, expected, line)
        second = desk.say(line)
        self.assertEqual(second, expected)
        self.assertIsNot(first, second)
        second.append("spoilt")
        self.assertEqual(desk.say(line), expected)
        self.assertEqual(kept_by(desk), before)

    def check_lays(self, desk, line, name, system):
        """That the line lays the system under the name, behind all others."""
        before = kept_by(desk)
        answer = desk.say(line)
        self.assertEqual(answer, [])
        answer.append("spoilt")
        self.assertEqual(kept_by(desk), before + [(name, [show_system(system)])])

    def refused(self, desk, line, error):
        """The refusal of the line, which changes nothing, twice."""
        before = kept_by(desk)
        for turn in range(2):
            with self.assertRaises(error, msg=repr(line)) as caught:
                desk.say(line)
            self.assertIs(type(caught.exception), error, line)
            self.assertIs(error.__base__, SumError)
            self.assertEqual(kept_by(desk), before)
        return caught.exception

    def check_no_name(self, desk, line, name):
        self.assertEqual(self.refused(desk, line, NoName).name, name)

    def check_taken(self, desk, line, name):
        self.assertEqual(self.refused(desk, line, Taken).name, name)

    def check_too_many(self, desk, line, most):
        self.assertEqual(self.refused(desk, line, TooMany).most, most)


class Laying(OnDesks):
    def test_at_first_there_are_none(self):
        self.check(Desk(), "names", [])

    def test_system(self):
        desk = Desk()
        for place, system in enumerate(all_sorts(1)[:24]):
            name = "x" + chr(97 + place)
            self.check_lays(desk, f"system {name} {show_system(system)}", name, system)

    def test_turned_and_smallest(self):
        for system in all_sorts(2):
            desk = self.desk_with(one=system)
            self.check_lays(desk, "turned t one", "t", system.turned())
            self.check_lays(desk, "smallest s one", "s", smallest(system))

    def test_put_together(self):
        chance = random.Random(3)
        for states, ins, outs in [(2, 1, 1), (3, 2, 2), (4, 2, 2), (0, 1, 1), (1, 0, 0)]:
            one = some_system(chance, states, ins, outs, 9)
            other = some_system(chance, states, ins, outs, 9)
            desk = self.desk_with(one=one, other=other)
            for word, join in [("row", in_row), ("beside", beside), ("added", added), ("ring", ringed)]:
                self.check_lays(desk, f"{word} {word}ab one other", word + "ab", join(one, other))
                self.check_lays(desk, f"{word} {word}ba other one", word + "ba", join(other, one))
                self.check_lays(desk, f"{word} {word}aa one one", word + "aa", join(one, one))

    def test_put_together_of_unlike_sizes(self):
        chance = random.Random(4)
        one = some_system(chance, 2, 1, 2, 9)
        other = some_system(chance, 3, 2, 1, 9)
        third = some_system(chance, 1, 2, 2, 9)
        desk = self.desk_with(one=one, other=other, third=third)
        self.check_lays(desk, "row a one third", "a", in_row(one, third))
        self.check_lays(desk, "beside b one other", "b", beside(one, other))
        self.check_lays(desk, "ring c one other", "c", ringed(one, other))

    def test_steered(self):
        chance = random.Random(5)
        for system in all_sorts(6):
            if is_steered(system):
                desk = self.desk_with(one=system)
                for place, wish in enumerate([some_row(chance, system.states, 9), row_of(*[0] * system.states)]):
                    name = "s" + chr(97 + place)
                    expected = closed(system, steered(system, wish))
                    self.check_lays(desk, shown("steered", name, "one", wish), name, expected)

    def test_names_in_the_order_in_which_they_were_laid(self):
        desk = Desk()
        for name in ["b", "a", "zzzzzzzz", "names", "system", "d", "e", "move"]:
            desk.say(f"system {name} {EMPTY_TEXT}")
        self.check(desk, "names", ["b", "a", "zzzzzzzz", "names", "system", "d", "e", "move"])
        self.assertEqual(desk.say("drop a"), [])
        self.check(desk, "names", ["b", "zzzzzzzz", "names", "system", "d", "e", "move"])
        self.check_lays(desk, "system a " + CART_TEXT, "a", CART)
        self.check(desk, "names", ["b", "zzzzzzzz", "names", "system", "d", "e", "move", "a"])
        self.assertEqual(desk.say("drop b"), [])
        self.assertEqual(desk.say("drop e"), [])
        self.check_lays(desk, "turned b a", "b", CART.turned())
        self.check(desk, "names", ["zzzzzzzz", "names", "system", "d", "move", "a", "b"])

    def test_what_was_made_of_a_dropped_one_stays(self):
        desk = self.desk_with(one=CART)
        desk.say("turned t one")
        desk.say("drop one")
        self.check(desk, "show t", [show_system(CART.turned())])
        self.check_no_name(desk, "show one", "one")
        self.check_no_name(desk, "drop one", "one")
        desk.say("system one " + EMPTY_TEXT)
        self.check(desk, "show one", [EMPTY_TEXT])
        self.check(desk, "show t", [show_system(CART.turned())])

    def test_all_may_be_dropped(self):
        desk = self.full_desk(one=CART)
        for name in desk.say("names"):
            desk.say("drop " + name)
        self.check(desk, "names", [])

    def test_the_twenty_fifth_system(self):
        desk = self.full_desk(one=CART)
        for line in [
            "system new " + EMPTY_TEXT, "turned new one", "row new one one", "beside new one one",
            "added new one one", "ring new one one", "smallest new one", "steered new one 0 0",
        ]:
            self.check_too_many(desk, line, 24)
        self.check(desk, "run one 1 1", ["1"])
        desk.say("drop fulla")
        self.check_lays(desk, "turned new one", "new", CART.turned())
        self.check_too_many(desk, "turned more one", 24)

    def test_two_desks_by_turns(self):
        one = self.desk_with(a=CART)
        other = Desk()
        self.check_no_name(other, "show a", "a")
        self.check_lays(other, "system a " + EMPTY_TEXT, "a", System([], [], []))
        self.check_lays(one, "turned b a", "b", CART.turned())
        self.check_no_name(other, "show b", "b")
        other.say("drop a")
        self.check(one, "names", ["a", "b"])
        self.check(other, "names", [])

    def test_lines_with_the_same_words_on_two_desks_are_answered_alike(self):
        lines = [
            "system a " + CART_TEXT, "turned b a", "steered c a 1 0", "names", "come a 3 0 0 1 1", "sizes b",
            "apart a b", "drop b", "names", "smallest b c", "names", "show b", "told c 1 0 1",
        ]
        one = Desk()
        alone = [one.say(line) for line in lines]
        both = [Desk(), Desk()]
        by_turns = [[desk.say(line) for desk in both] for line in lines]
        self.assertEqual(by_turns, [[answer, answer] for answer in alone])


class Asking(OnDesks):
    def test_by_hand(self):
        desk = self.desk_with(cart=CART)
        self.check(desk, "show cart", [CART_TEXT])
        self.check(desk, "sizes cart", ["0 2 0 0"])
        self.check(desk, "run cart 0 0 1 0 -1/2", ["0", "0", "1", "2"])
        self.check(desk, "run cart 3/2 1", ["3/2"])
        self.check(desk, "come cart 2 0 0 2 0", ["puts", "2", "-2"])
        self.check(desk, "come cart 0 1 1 1 1", ["puts"])
        self.check(desk, "come cart 1 0 0 2 0", ["never", "1/2 0"])
        self.check(desk, "fewest cart 2 0", ["in 2", "2", "-2"])
        self.check(desk, "fewest cart 0 0", ["in 0"])
        self.check(desk, "least cart 3 1 0 0 2 0", ["effort 2", "1", "0", "-1"])
        self.check(desk, "least cart 1 1 0 0 2 0", ["never"])
        self.check(desk, "told cart 2 0 1", ["from", "-1", "1"])
        self.check(desk, "told cart 1 0 1", ["alike", "0 1"])
        self.check(desk, "told cart 0 0 0", ["from"])
        desk.say("steered still cart 0 0")
        self.check(desk, "apart cart still", ["2 0 0"])
        self.check(desk, "apart cart cart", ["alike"])
        self.check(desk, "run still 5 7 0 0 0", ["5", "12", "0", "0"])

    def test_sizes_and_show(self):
        for system in all_sorts(7):
            desk = self.desk_with(one=system)
            self.check(desk, "sizes one", [" ".join(str(len(rows)) for rows in four_parts(system))])
            self.check(desk, "show one", [show_system(system)])

    def test_run(self):
        chance = random.Random(8)
        for system in all_sorts(9):
            desk = self.desk_with(one=system)
            for many in [0, 1, 2, 12] if system.ins > 0 else [0]:
                start = some_row(chance, system.states, 9)
                puts = some_grid(chance, many, system.ins, 9)
                line = shown("run", "one", start, *puts)
                self.check(desk, line, lines_of(looks_along(system, start, puts)))

    def test_come(self):
        chance = random.Random(10)
        words = set()
        for system in all_sorts(11):
            desk = self.desk_with(one=system)
            for steps in [0, 1, 2, 12]:
                start = some_row(chance, system.states, 9)
                goal = some_row(chance, system.states, 9)
                word, answer = come(system, start, goal, steps)
                words.add(word)
                expected = ["puts"] + lines_of(answer) if word == "puts" else ["never", show_row(answer)]
                self.check(desk, shown("come", "one", steps, start, goal), expected)
        self.assertEqual(words, {"puts", "never"})

    def test_fewest(self):
        chance = random.Random(12)
        words = set()
        for system in all_sorts(13):
            desk = self.desk_with(one=system)
            for goal in [some_row(chance, system.states, 9), rest(system)]:
                answer = shut_off(system, goal)
                words.add(answer[0])
                expected = [f"in {answer[1]}"] + lines_of(answer[2]) if answer[0] == "in" else ["never"]
                self.check(desk, shown("fewest", "one", goal), expected)
        self.assertEqual(words, {"in", "never"})

    def test_least(self):
        chance = random.Random(14)
        words = set()
        for system in all_sorts(15):
            desk = self.desk_with(one=system)
            for steps in [0, 2, 9]:
                weights = some_weights(chance, system.ins, 9)
                start = some_row(chance, system.states, 3)
                goal = some_row(chance, system.states, 3)
                answer = least(system, weights, start, goal, steps)
                words.add(answer[0])
                expected = ["never"]
                if answer[0] == "puts":
                    expected = ["effort " + show_number(answer[1])] + lines_of(answer[2])
                self.check(desk, shown("least", "one", steps, weights, start, goal), expected)
        self.assertEqual(words, {"puts", "never"})

    def test_apart(self):
        chance = random.Random(16)
        found = set()
        for system in all_sorts(17):
            other = some_system(chance, system.states, system.ins, system.outs, 2)
            desk = self.desk_with(one=system, other=other, small=smallest(system))
            self.check(desk, "apart one small", ["alike"])
            answer = apart(system, other)
            found.add(answer is None)
            expected = "alike" if answer is None else " ".join(str(part) for part in answer)
            self.check(desk, "apart one other", [expected])
        self.assertEqual(found, {True, False})
        puts = System([], [[]] * 3, [[]] * 2)
        put = [row_of(0, 0), row_of(0, 0), row_of(1, 0)]
        late = System([row_of(0, 0), row_of(1, 0)], put, [row_of(0, 0), row_of(0, 1)])
        self.check(self.desk_with(one=puts, other=late), "apart one other", ["1 1 2"])

    def test_told(self):
        chance = random.Random(18)
        words = set()
        for system in all_sorts(19):
            desk = self.desk_with(one=system)
            for steps in [0, 1, 2, 12]:
                asked = some_row(chance, system.states, 9)
                word, answer = told_by(system, asked, steps)
                words.add(word)
                expected = ["from"] + lines_of(answer) if word == "from" else ["alike", show_row(answer)]
                self.check(desk, shown("told", "one", steps, asked), expected)
        self.assertEqual(words, {"from", "alike"})

    def test_rows_of_none(self):
        desk = self.desk_with(empty=System([], [], []), blind=System([row_of(2)], [row_of(1)], []))
        self.check(desk, "run empty", [""])
        self.check(desk, "come empty 2", ["puts", "", ""])
        self.check(desk, "fewest empty", ["in 0"])
        self.check(desk, "least empty 1", ["effort 0", ""])
        self.check(desk, "told empty 3", ["from", "", "", ""])
        self.check(desk, "sizes empty", ["0 0 0 0"])
        self.check(desk, "run blind 1 1 1", ["", "", ""])
        self.check_lays(desk, "steered more empty", "more", System([], [], []))
        wide = self.desk_with(wide=System([], [[], []], [[], []]))
        self.check(wide, "run wide 1 2 3 4", ["0 0", "0 0", "0 0"])
        self.check(wide, "come wide 1", ["puts", "0 0"])
        self.check(wide, "least wide 2 1 1", ["effort 0", "0 0", "0 0"])

    def test_asking_lays_nothing(self):
        desk = self.desk_with(cart=CART)
        for line in ["names", "show cart", "sizes cart", "run cart 0 0", "fewest cart 1 1", "apart cart cart"]:
            desk.say(line)
            self.check(desk, "names", ["cart"])


class Refusing(OnDesks):
    def test_what_is_no_text(self):
        desk = self.desk_with(cart=CART)
        for thing in [thing for thing in STRANGE if not isinstance(thing, str)] + [["names"], ("names",), b"names"]:
            self.refused(desk, thing, NoText)

    def test_lines_that_are_none(self):
        desk = self.desk_with(cart=CART, one=CART)
        for line in [
            "", " ", "name", "Names", "NAMES", "names ", " names", "names names", "names cart", "names\n", "show",
            "show ", "show  cart", " show cart", "show cart ", "show cart one", "show cart 1", "sizes",
            "sizes cart one", "drop", "drop cart one", "run", "run ", "come", "come cart", "come cart ",
            "come 2 cart 0 0 2 0", "fewest", "fewest ", "least", "least cart", "told", "told cart", "apart",
            "apart cart", "apart cart one one", "apart cart one 1", "turned", "turned new", "turned new cart one",
            "turned new cart 1", "row", "row new", "row new cart", "row new cart one one", "beside new cart",
            "added new cart", "ring new cart", "beside new cart one one", "added new cart one one",
            "ring new cart one one", "smallest", "smallest new", "smallest new cart one", "steered", "steered new",
            "system", "system new", "system new ", "system new cart", "in_row new cart one", "ringed new cart one",
            "in new cart one", "x", "cart", "system cart", "turned\tnew cart", "turned new\tcart",
            "turned new cart\n", "show cart\n", "say names", "help", "quit",
        ]:
            self.refused(desk, line, NoText)

    def test_names_that_are_none(self):
        desk = self.desk_with(cart=CART)
        for name in [
            "", "Cart", "cart1", "1", "abcdefghi", "a_b", "a-b", "a.b", "CART", "c\u00e4rt", "\u0430", "a\n", "-1",
            "1/2", "*", "\u017f", "{", "`", "@",
        ]:
            for line in [
                f"system {name} {EMPTY_TEXT}", f"turned {name} cart", f"turned new {name}", f"row {name} cart cart",
                f"row new {name} cart", f"row new cart {name}", f"beside new {name} cart", f"added new cart {name}",
                f"ring {name} cart cart", f"smallest new {name}", f"steered {name} cart 0 0",
                f"steered new {name} 0 0", f"drop {name}", f"show {name}", f"sizes {name}", f"run {name} 0 0",
                f"come {name} 1 0 0 0 0", f"fewest {name} 0 0", f"least {name} 1 1 0 0 0 0", f"apart {name} cart",
                f"apart cart {name}", f"told {name} 1 0 0",
            ]:
                self.refused(desk, line, NoText)

    def test_names_of_all_lengths(self):
        desk = Desk()
        for many in range(1, 9):
            self.check_lays(desk, f"system {'abcdxyzq'[:many]} {EMPTY_TEXT}", "abcdxyzq"[:many], System([], [], []))
        self.refused(desk, f"system abcdxyzqr {EMPTY_TEXT}", NoText)
        self.check_lays(desk, f"system q {EMPTY_TEXT}", "q", System([], [], []))

    def test_each_letter(self):
        for letter in "abcdefghijklmnopqrstuvwxyz":
            self.check_lays(Desk(), f"system {letter} {EMPTY_TEXT}", letter, System([], [], []))

    def test_steps_that_are_none(self):
        desk = self.desk_with(cart=CART)
        wrong = ["", "13", "99", "-1", "-0", "00", "01", "012", "+1", "1/2", "2/1", "x", "1.0", "1_0", "\u0661", "cart"]
        for steps in wrong:
            for line in [f"come cart {steps} 0 0 0 0", f"least cart {steps} 1 0 0 0 0", f"told cart {steps} 0 0"]:
                self.refused(desk, line, NoText)
        for steps in range(13):
            self.assertEqual(desk.say(f"come cart {steps} 0 0 0 0"), ["puts"] + ["0"] * steps)
            self.assertEqual(desk.say(f"told cart {steps} 0 0"), ["from"] + ["0"] * steps)
            self.assertEqual(desk.say(f"least cart {steps} 1 0 0 0 0"), ["effort 0"] + ["0"] * steps)

    def test_numbers_that_are_none(self):
        desk = self.desk_with(cart=CART)
        wrong = ["", "2/4", "3/1", "0/5", "-0", "+1", "01", "1/0", "x", "1.5", "1,", "1/-2", "cart", "--1", "1/2/3"]
        for word in wrong:
            for line in [
                f"steered new cart {word} 0", f"steered new cart 0 {word}", f"run cart {word} 0",
                f"run cart 0 0 {word}", f"come cart 1 0 0 0 {word}", f"fewest cart 0 {word}",
                f"least cart 1 {word} 0 0 0 0", f"least cart 1 1 0 0 0 {word}", f"told cart 1 {word} 0",
            ]:
                self.refused(desk, line, NoText)

    def test_systems_that_are_none(self):
        desk = self.desk_with(cart=CART)
        for text in [
            "", "0 0 0 move put", "9 0 0 move " + "0 " * 81 + "put look", "0 5 0 move put look",
            "0 0 5 move put look", "1 0 0 move 2/4 put look", "1 0 0 move put look", "0 0 0 move put look 1",
            "0 0 0 move  put look", "0 0 0 move put look ", " 0 0 0 move put look", "cart",
        ]:
            self.refused(desk, "system new " + text, NoText)

    def test_another_number_of_numbers(self):
        two = some_system(random.Random(20), 1, 2, 1, 3)
        desk = self.desk_with(cart=CART, still=System([row_of(1)], [], [row_of(1)]), two=two)
        needed = {"steered new cart": 2, "come cart 3": 4, "fewest cart": 2, "least cart 3": 5, "told cart 3": 2}
        for line, many in needed.items():
            for wrong in [count for count in range(many + 3) if count != many]:
                self.refused(desk, " ".join([line] + ["1"] * wrong), NoText)
        for many in [0, 1, 15, 16, 40]:
            self.refused(desk, " ".join(["run cart"] + ["1"] * many), NoText)
        for many in range(2, 15):
            self.assertEqual(len(desk.say(" ".join(["run cart"] + ["1"] * many))), many - 1)
        for many in [0, 2, 3, 13]:
            self.refused(desk, " ".join(["run still"] + ["1"] * many), NoText)
        for many in range(0, 30):
            line = " ".join(["run two"] + ["1"] * many)
            if many % 2 == 1 and many <= 25:
                self.assertEqual(len(desk.say(line)), (many + 1) // 2)
            else:
                self.refused(desk, line, NoText)

    def test_weights_that_are_not_above_nought(self):
        desk = self.desk_with(cart=CART, two=some_system(random.Random(21), 1, 2, 0, 3))
        for weight in ["0", "-1", "-1/2"]:
            self.refused(desk, f"least cart 1 {weight} 0 0 0 0", NoText)
            self.refused(desk, f"least two 1 {weight} 1 0 0", NoText)
            self.refused(desk, f"least two 1 1 {weight} 0 0", NoText)
        self.check(desk, "least two 1 1/9 1 0 0", ["effort 0", "0 0"])
        self.check(desk, "least cart 1 1 -1 0 -1 0", ["effort 0", "0"])

    def test_names_that_stand_for_nothing(self):
        desk = self.desk_with(cart=CART)
        for line in [
            "turned new no", "row new no cart", "row new cart no", "beside new no cart", "added new cart no",
            "ring new no cart", "smallest new no", "steered new no 0 0", "drop no", "show no", "sizes no",
            "run no 0 0", "come no 1 0 0 0 0", "fewest no 0 0", "least no 1 1 0 0 0 0", "apart no cart",
            "apart cart no", "told no 1 0 0",
        ]:
            self.check_no_name(desk, line, "no")
        # The first one in the line.
        for line in ["row new no nor", "beside new no nor", "added new no nor", "ring new no nor", "apart no nor"]:
            self.check_no_name(desk, line, "no")

    def test_no_text_goes_ahead_of_no_name(self):
        desk = self.desk_with(cart=CART)
        for line in [
            "turned new no x", "turned NEW no", "row new no 1", "row new no", "steered new no x", "run no 01",
            "run no 1 ", "come no 13 0 0 0 0", "come no x", "come no", "least no 1 2/4", "told no 1 x", "apart no",
            "apart no NO", "show no x", "system no",
        ]:
            self.refused(desk, line, NoText)

    def test_no_name_goes_ahead_of_another_number_of_numbers_and_weights(self):
        desk = self.desk_with(cart=CART)
        for line in [
            "steered new no", "steered new no 1 2 3 4 5 6 7 8 9", "run no", "come no 1", "fewest no",
            "least no 1 0 0 0 0 0", "least no 1", "told no 1",
        ]:
            self.check_no_name(desk, line, "no")

    def test_no_name_goes_ahead_of_taken(self):
        desk = self.desk_with(cart=CART)
        for line in ["turned cart no", "row cart cart no", "smallest cart no", "steered cart no 0 0", "turned no no"]:
            self.check_no_name(desk, line, "no")

    def test_no_name_goes_ahead_of_a_twenty_fifth(self):
        desk = self.full_desk(cart=CART)
        for line in ["turned new no", "ring new cart no", "smallest new no", "steered new no 0 0", "added cart no no"]:
            self.check_no_name(desk, line, "no")

    def test_another_number_of_numbers_goes_ahead_of_taken_and_a_twenty_fifth(self):
        desk = self.full_desk(cart=CART)
        for line in ["steered cart cart 0", "steered cart cart 0 0 0", "steered new cart", "steered new cart 0 0 0"]:
            self.refused(desk, line, NoText)

    def test_no_text_goes_ahead_of_taken_and_a_twenty_fifth(self):
        desk = self.full_desk(cart=CART)
        for line in ["system cart x", "system cart 0 5 0 move put look", "system new x", "turned cart cart cart"]:
            self.refused(desk, line, NoText)

    def test_taken(self):
        still = System([row_of(1)], [], [row_of(1)])
        for desk in [self.desk_with(cart=CART, still=still), self.full_desk(cart=CART, still=still)]:
            for line in [
                "system cart " + EMPTY_TEXT, "system cart " + CART_TEXT, "turned cart cart", "turned cart still",
                "row cart cart cart", "beside cart cart still", "added cart still still", "ring cart cart cart",
                "smallest cart still", "steered cart cart 0 0",
                # What the function would refuse is asked behind it.
                "row cart cart still", "added cart cart still", "ring cart still cart", "steered cart still 0",
            ]:
                self.check_taken(desk, line, "cart")

    def test_a_twenty_fifth_goes_ahead_of_what_the_function_refuses(self):
        still = System([row_of(1)], [], [row_of(1)])
        big = some_system(random.Random(22), 8, 4, 4, 3)
        desk = self.full_desk(cart=CART, still=still, big=big)
        for line in ["row new cart still", "added new cart still", "ring new cart still", "steered new still 0",
                     "beside new big cart", "row new big big"]:
            self.check_too_many(desk, line, 24)

    def test_what_the_functions_refuse(self):
        still = System([row_of(1)], [], [row_of(1)])
        big = some_system(random.Random(23), 8, 2, 2, 3)
        wide = some_system(random.Random(24), 1, 4, 4, 3)
        desk = self.desk_with(cart=CART, still=still, big=big, wide=wide)
        for line in ["row new cart still", "added new cart still", "ring new cart still", "row new big cart",
                     "ring new big cart", "added new big wide", "apart cart still", "apart big cart"]:
            self.refused(desk, line, NoFit)
        for line, most in [("beside new wide cart", 4), ("beside new big cart", 8), ("row new big big", 8),
                           ("added new big big", 8), ("ring new big big", 8), ("beside new wide big", 4)]:
            self.check_too_many(desk, line, most)
        for line in ["steered new still 0", "steered new still 1"]:
            price = self.refused(desk, line, NotSteered).price
            check_row(self, price, 1)
            self.assertNotEqual(price, row_of(0))
        half = System([row_of(1, 0), row_of(0, 2)], [row_of(1, 0)], [])
        desk = self.desk_with(half=half)
        price = self.refused(desk, "steered new half 0 0", NotSteered).price
        self.assertEqual(dot(price, row_of(1, 0)), 0)
        self.assertNotEqual(price, row_of(0, 0))

    def test_what_was_refused_is_taken_as_soon_as_it_is_right(self):
        desk = Desk()
        self.check_no_name(desk, "turned t cart", "cart")
        self.check_lays(desk, "system cart " + CART_TEXT, "cart", CART)
        self.check_lays(desk, "turned t cart", "t", CART.turned())
        self.check_taken(desk, "smallest t cart", "t")
        desk.say("drop t")
        self.check_lays(desk, "smallest t cart", "t", smallest(CART))


if __name__ == "__main__":
    unittest.main()
