"""[20.1] to [20.6]: texts of moves, groups, rows and kinds."""

import random
import re
import unittest
from itertools import permutations, product

from helpers import ALONE, Case, FIVE, NO_GROUPS, PAIRS, QUATER, SQUARE, THREE, TWENTY, WRONG, double_group, first_of, many_turning
from movemarks.desk.desks import Desk
from movemarks.errors import InvalidGroup, InvalidKinds, InvalidMove, InvalidNumber, InvalidRow, ParseError
from movemarks.lattice.subgroups import class_sizes
from movemarks.mark.marks import mark_table
from movemarks.move.groups import Group, beside
from movemarks.move.moves import cycles
from movemarks.text import texts
from movemarks.text.texts import (read_group, read_kinds, read_move, read_row, table_lines, write_group, write_kinds, write_move,
                                  write_row)

LONG = 10 ** 60 - 1
SIGNS = "019()[]+-,: a\t\n"
NO_TEXTS = tuple(value for value in WRONG if not isinstance(value, str)) + (b"()", ("()",), ["()"], Desk(THREE, (0, 0, 0, 0)), "0" * 3001, "(" * 3001)
NO_PLACES = WRONG + (0, 25, 26, (2,), "2")
NO_LENGTHS = WRONG + (0, 61, 62, (2,), "2")
# None of these is a tuple of 1 to 60 integers.
NO_MEMBERS = WRONG + ((), (0,) * 61, (0,) * 2000, [0], [0, 0], (0, True), (0, None), ("0",), ((0,),), (10 ** 60, 0), (0, -10 ** 60), 0, "0", {0: 0})


class Machine:
    """All texts of one kind, told by states and steps between them; it tells how far a text can go on."""

    def __init__(self, told):
        self.steps = [[]]
        self.end = self.put_in(told, 0)

    def new(self):
        self.steps.append([])
        return len(self.steps) - 1

    def put_in(self, told, start):
        """The state to which a text that is told leads from a state."""
        if isinstance(told, str):
            end = self.new()
            self.steps[start].append((told, end))
            return end
        word, parts = told[0], told[1:]
        if word == "behind":
            for part in parts:
                start = self.put_in(part, start)
            return start
        if word == "any":
            end = self.new()
            for part in parts:
                self.steps[self.put_in(part, start)].append(("", end))
            return end
        loop, end = self.new(), self.new()
        self.steps[start].append(("", loop))
        self.steps[self.put_in(parts[0], loop)].append(("", loop))
        self.steps[loop].append(("", end))
        return end

    def closed(self, states):
        found, waiting = set(states), list(states)
        while waiting:
            for signs, target in self.steps[waiting.pop()]:
                if signs == "" and target not in found:
                    found.add(target)
                    waiting.append(target)
        return found

    def fault(self, text):
        """The index of the first character with which no text can go on, the length if the end is missing, or None."""
        states = self.closed([0])
        for index, sign in enumerate(text):
            states = self.closed([target for state in states for signs, target in self.steps[state] if signs and sign in signs])
            if not states:
                return index
        return None if self.end in states else len(text)


def behind(*parts):
    return ("behind",) + parts


def any_of(*parts):
    return ("any",) + parts


def often(part):
    return ("often", part)


NOTHING = behind()
ABOVE = behind("123456789", *[any_of(NOTHING, "0123456789") for _ in range(59)])
PLAIN = any_of("0", ABOVE)
SIGNED = any_of(PLAIN, behind("-", ABOVE))
RING = behind("(", PLAIN, " ", PLAIN, often(behind(" ", PLAIN)), ")")
MOVE = any_of(behind("(", ")"), behind(RING, often(RING)))
INDEX = behind("[", PLAIN, "]")
FIRST = any_of(behind(any_of(NOTHING, PLAIN), INDEX), behind("-", any_of(NOTHING, ABOVE), INDEX))
TERM = behind(any_of(NOTHING, PLAIN), INDEX)
MOVES, GROUPS, ROWS = Machine(MOVE), Machine(behind(PLAIN, ":", often(behind(" ", MOVE)))), Machine(behind(SIGNED, often(behind(",", SIGNED))))
KINDS = Machine(any_of("0", behind(FIRST, often(behind(" ", "+-", " ", TERM)))))


def near(text, all_signs=SIGNS):
    """Texts near to one: cut off at every place, and with each character left out, doubled or exchanged."""
    for at in range(len(text)):
        yield text[:at]
        yield text[:at] + text[at + 1:]
        yield text[:at] + text[at] + text[at:]
        for sign in all_signs:
            yield text[:at] + sign + text[at + 1:]
    for sign in all_signs:
        yield text + sign


def told_move(text, places):
    """The move with a text without faults, or the error."""
    rings = [[int(place) for place in ring.split()] for ring in re.findall(r"\(([^()]*)\)", text)]
    named = [place for ring in rings for place in ring]
    if len(set(named)) < len(named) or any(place >= places for place in named):
        return InvalidMove
    led = {place: ring[at - len(ring) + 1] for ring in rings for at, place in enumerate(ring)}
    return tuple(led.get(place, place) for place in range(places))


def told_kinds(text, length):
    """The kinds with a text without faults, or the error."""
    found = {}
    for sign, many, index in re.findall(r"(-?) ?(\d*)\[(\d+)\]", text):
        found[int(index)] = found.get(int(index), 0) + int(sign + (many or "1"))
    if any(index >= length for index in found) or any(abs(many) >= 10 ** 60 for many in found.values()):
        return InvalidKinds
    return tuple(found.get(index, 0) for index in range(length))


class TextCase(Case):

    def assert_fault(self, index, call, *passed):
        """Asks for `ParseError` with an index."""
        self.assertEqual(self.assert_raises(ParseError, call, *passed).index, index, passed)

    def judge(self, machine, right, call, text, *passed):
        """Asks for what a text tells: an index of a fault, an error, or what is read."""
        fault = machine.fault(text)
        if fault is not None:
            self.assert_fault(fault, call, text, *passed)
        elif isinstance(right(text, *passed), type):
            self.assert_raises(right(text, *passed), call, text, *passed)
        else:
            self.assertEqual(call(text, *passed), right(text, *passed))


class Moves(TextCase):

    def test_constants(self):
        self.assertEqual((texts.MOST_SIGNS, texts.MOST_MEMBERS), (3000, 60))

    def test_all_moves_of_few_places(self):
        for places in range(1, 6):
            for move in permutations(range(places)):
                text = write_move(move)
                rings = [ring for ring in cycles(move) if len(ring) > 1]
                self.assertEqual(text, "".join(str(ring).replace(",", "") for ring in rings) or "()")
                self.assertEqual(read_move(text, places), move)
                self.assertIsNone(MOVES.fault(text))

    def test_moves_of_many_places(self):
        source = random.Random(5)
        for places in range(6, 25):
            for _ in range(5):
                move = list(range(places))
                source.shuffle(move)
                self.assertEqual(read_move(write_move(tuple(move)), places), tuple(move))
                self.assertEqual(read_move(write_move(tuple(move)), 24), tuple(move) + tuple(range(places, 24)))

    def test_other_orders(self):
        for text in ("(4 3)(2 0 1)", "(3 4)(0 1 2)", "(1 2 0)(4 3)"):
            self.assertEqual(read_move(text, 5), (1, 2, 0, 4, 3))
        self.assertEqual((read_move("()", 1), read_move("(0 23)", 24)[0], read_move("(1 0)", 2)), ((0,), 23, (1, 0)))

    def test_texts_near_to_texts(self):
        for text in ("()", "(0 1)", "(0 1 2)(3 4)", "(10 1)(0 11 2)", "(4 3)(2 0 1)"):
            for other in near(text):
                for places in (5, 12):
                    self.judge(MOVES, told_move, read_move, other, places)

    def test_faults(self):
        for text, index in (("", 0), ("(", 1), ("(0", 2), ("(0 ", 3), ("(0 1", 4), ("(0)", 2), ("( )", 1), ("(0  1)", 3), ("(0 1 )", 5), ("() ", 2),
                            ("()(0 1)", 2), ("(0 1)()", 6), ("(0 1) (2 3)", 5), ("(00 1)", 2), ("(01 2)", 2), ("(0 1)(", 6), ("(-1 0)", 1), ("(0 -1)", 3),
                            ("(0,1)", 2), (" (0 1)", 0), ("(0 1)\n", 5), (")", 0), ("(+1 0)", 1), ("1", 0), ("(1 00)", 4)):
            self.assertEqual(MOVES.fault(text), index)
            self.assert_fault(index, read_move, text, 24)

    def test_places_that_are_not_there(self):
        for text, places in (("(0 1)", 1), ("(0 5)", 5), ("(0 0)", 4), ("(0 1)(2 1)", 4), ("(0 1)(1 0)", 4), ("(0 1 0)", 4), (f"(0 {LONG})", 24), ("(23 24)", 24)):
            self.assert_raises(InvalidMove, read_move, text, places)
        # A fault goes ahead of a place that is not there.
        self.assert_fault(5, read_move, "(0 0 ", 4)
        self.assert_fault(7, read_move, "(0 9)(1", 4)

    def test_sixty_and_sixty_one_digits(self):
        self.assert_raises(InvalidMove, read_move, f"({LONG} 0)", 24)
        self.assert_fault(61, read_move, f"({10 ** 60} 0)", 24)
        self.assert_fault(61, read_move, "(" + "1" * 100, 24)
        self.assert_fault(63, read_move, f"(0 {10 ** 60})", 24)

    def test_long_texts(self):
        text = "(0 1)" * 600
        self.assertEqual(len(text), 3000)
        self.assert_raises(InvalidMove, read_move, text, 24)
        self.assert_fault(0, read_move, text + ")", 24)
        self.assert_fault(2999, read_move, text[:-1] + "!", 24)
        self.assert_fault(2999, read_move, text[:-1], 24)


class Groups(TextCase):

    def test_groups(self):
        for group in (THREE, SQUARE, PAIRS, FIVE, QUATER, TWENTY, ALONE, Group(2, ()), Group(24, ()), Group(3, ((0, 1, 2),) * 6), double_group(),
                      many_turning(2, 3, 4), Group.every(5), beside(SQUARE, Group.turning(2))):
            text = write_group(group)
            self.assertEqual(text, f"{group.places}:" + "".join(" " + write_move(maker) for maker in group.makers))
            told = read_group(text)
            self.assertEqual((told, told.makers, told.places), (group, group.makers, group.places))
            self.assertIsNone(GROUPS.fault(text))
        self.assertEqual(write_group(Group(3, ((0, 1, 2), (1, 0, 2)))), "3: () (0 1)")

    def test_texts_near_to_texts(self):
        def right(text):
            places, *moves = text.split(":")[0], *text.split(":")[1].replace(") (", ")|(").strip().split("|")
            places, moves = int(places), [move for move in moves if move]
            if not 1 <= places <= 24:
                return InvalidNumber
            told = [told_move(move, places) for move in moves]
            return InvalidMove if InvalidMove in told or len(told) > 6 else Group(places, tuple(told))
        for text in ("2:", "3: (0 1) (0 1 2)", "4: () (1 0)(2 3) ()", "1: ()", "5: (0 1 2 3 4)"):
            for other in near(text):
                self.judge(GROUPS, right, read_group, other)
                if GROUPS.fault(other) is None and isinstance(right(other), Group):
                    self.assertEqual(read_group(other).makers, right(other).makers)

    def test_faults(self):
        for text, index in (("", 0), ("4", 1), ("4:", None), ("4: ", 3), ("4:(0 1)", 2), ("4:  (0 1)", 3), ("4: (0 1) ", 9), ("4: (0 1)(", 9), ("4: ()(0 1)", 5),
                            ("4: (0 1)()", 9), ("04:", 1), ("-4:", 0), (":", 0), ("4 : ()", 1), ("4: (0)", 5), ("4: () ()", None), ("4::", 2)):
            self.assertEqual(GROUPS.fault(text), index)
            if index is not None:
                self.assert_fault(index, read_group, text)
        self.assertEqual((read_group("4:"), len(read_group("4: () ()"))), (Group(4, ()), 1))

    def test_numbers_of_places(self):
        for places in (0, 25, 26, 100, LONG):
            self.assert_number(places, read_group, f"{places}:")
            # The number of the places goes ahead of the moves, and a fault ahead of both.
            self.assert_number(places, read_group, f"{places}: (0 0)")
            self.assert_number(places, read_group, f"{places}:" + " ()" * 7)
            self.assert_fault(len(f"{places}: (0 0)("), read_group, f"{places}: (0 0)(")
        self.assert_fault(60, read_group, f"{10 ** 60}:")
        self.assertEqual((read_group("1:").places, read_group("24:").places), (1, 24))

    def test_six_and_seven_makers(self):
        self.assertEqual(read_group("3:" + " (0 1 2)" * 6).order, 3)
        self.assert_raises(InvalidMove, read_group, "3:" + " (0 1 2)" * 7)
        self.assert_raises(InvalidMove, read_group, "3: (0 3)")
        self.assert_raises(InvalidMove, read_group, "3: (0 1) (1 1)")
        self.assert_raises(InvalidMove, read_group, "10: (0 1 2 3 4 5 6 7 8 9) (0 1) (0 10)")

    def test_groups_that_are_too_great(self):
        self.assert_too_many(120, read_group, "10: (0 1 2 3 4 5 6 7 8 9) (0 1)")
        self.assert_too_many(120, read_group, "6: (0 1 2 3 4 5) (0 1)")
        self.assert_too_many(200, read_group, "10: (0 1) (2 3) (4 5) (6 7) (8 9)")
        self.assert_too_many(60, read_group, "8: (0 1) (2 3) (4 5) (6 7)")

    def test_long_texts(self):
        text = "24: (10 11)" + " ()" * 996 + "\n"
        self.assertEqual(len(text), 3000)
        self.assert_fault(2999, read_group, text)
        self.assert_fault(0, read_group, text + " ")
        text = "24: (1 2)" + " ()" * 997
        self.assertEqual(len(text), 3000)
        self.assert_raises(InvalidMove, read_group, text)

    def test_unlike_texts_of_equal_groups(self):
        # [20.6]
        other = Group(3, ((0, 2, 1), (1, 0, 2)))
        self.assertEqual(other, THREE)
        self.assertNotEqual(write_group(other), write_group(THREE))


class Rows(TextCase):

    def test_rows(self):
        for row in ((0,), (6, 2, 0, -1), (-10, 10), (LONG, -LONG, 0), (0,) * 60, tuple(range(-30, 30)), (10 ** 59, -10 ** 59)):
            self.assertEqual(write_row(row), str(row).strip("(),").replace(" ", ""))
            self.assertEqual(read_row(write_row(row)), row)
        for row in product((-11, -1, 0, 1, 20), repeat=3):
            self.assertEqual(read_row(write_row(row)), row)

    def test_texts_near_to_texts(self):
        def right(text):
            return tuple(map(int, text.split(",")))
        for text in ("0", "-1", "6,2,0,-1", "10,-20,30", "1,1,1"):
            for other in near(text):
                self.judge(ROWS, right, read_row, other)

    def test_faults(self):
        for text, index in (("", 0), ("-", 1), ("-0", 1), ("0,-0", 3), ("1,", 2), (",1", 0), ("1,,2", 2), ("01", 1), ("00", 1), ("-01", 1), ("--1", 1), ("+1", 0),
                            ("1, 2", 2), ("1 ,2", 1), ("1,2\n", 3), ("1.0", 1), ("1,-", 3), ("1-2", 1), ("1,02", 3)):
            self.assertEqual(ROWS.fault(text), index)
            self.assert_fault(index, read_row, text)

    def test_sixty_and_sixty_one_members(self):
        self.assertEqual(read_row("0" + ",0" * 59), (0,) * 60)
        self.assert_raises(InvalidRow, read_row, "0" + ",0" * 60)
        self.assert_raises(InvalidRow, read_row, "1" + ",1" * 1499)
        self.assert_fault(len("0" + ",0" * 60 + ","), read_row, "0" + ",0" * 60 + ",")

    def test_sixty_and_sixty_one_digits(self):
        self.assertEqual(read_row(f"{LONG},{-LONG}"), (LONG, -LONG))
        self.assert_fault(60, read_row, str(10 ** 60))
        self.assert_fault(61, read_row, str(-10 ** 60))
        self.assert_fault(122, read_row, f"{LONG},-{LONG}9")

    def test_long_texts(self):
        row = (LONG,) * 49 + (10 ** 10,)
        self.assertEqual(len(write_row(row)), 3000)
        self.assertEqual(read_row(write_row(row)), row)
        self.assert_fault(0, read_row, write_row(row[:-1] + (10 ** 11,)))
        longest = (-LONG,) * 60
        self.assertEqual(len(write_row(longest)), 60 * 62 - 1)
        self.assert_fault(0, read_row, write_row(longest))
        self.assert_fault(3000, read_row, "1," * 1500)
        self.assert_fault(2999, read_row, "1," * 1499 + "1a")

    def test_group_with_rows(self):
        for group in (THREE, FIVE, double_group()):
            for row in mark_table(group):
                self.assertEqual(read_row(write_row(row)), row)


class Kinds(TextCase):

    def test_kinds(self):
        for kinds in list(product((-12, -1, 0, 1, 2), repeat=3)) + [(LONG, -LONG), (0,) * 60, (1,) * 60, (-1,) * 12]:
            parts = [("- " if many < 0 else "+ ") + (str(abs(many)) if abs(many) != 1 else "") + f"[{index}]" for index, many in enumerate(kinds) if many]
            text = " ".join(parts)
            right = ("-" + text[2:] if text[:1] == "-" else text[2:]) or "0"
            self.assertEqual(write_kinds(kinds), right)
            self.assertEqual(read_kinds(right, len(kinds)), kinds)
            self.assertEqual(read_kinds(right, 60), kinds + (0,) * (60 - len(kinds)))
            self.assertIsNone(KINDS.fault(right))
        self.assertEqual((write_kinds((2, 0, -1, 3)), write_kinds((-1, 1)), write_kinds((0, -2))), ("2[0] - [2] + 3[3]", "-[0] + [1]", "-2[1]"))

    def test_texts_near_to_texts(self):
        for text in ("0", "[0]", "-[1]", "2[0] - [2] + 3[3]", "0[1] + 10[10] - 0[0]", "-12[0] + [1]"):
            for other in near(text):
                for length in (2, 4, 11):
                    self.judge(KINDS, told_kinds, read_kinds, other, length)

    def test_faults(self):
        for text, index in (("", 0), ("-", 1), ("-0", 1), ("-0[1]", 1), ("00", 1), ("01[0]", 1), ("0 ", 1), ("0 + [1]", 1), ("5", 1), ("-5", 2), ("[", 1), ("[]", 1),
                            ("[0", 2), ("[0] ", 4), ("[0] +", 5), ("[0] + ", 6), ("[0] +[1]", 5), ("[0]+ [1]", 3), ("[0] * [1]", 4), ("[0] + -[1]", 6),
                            ("+[0]", 0), ("[-1]", 1), ("[00]", 2), ("[01]", 2), ("2 [0]", 1), ("--[0]", 1), ("[0][1]", 3), ("[0] + 0", 7), ("[0] - 0[1]", None),
                            ("0[0]", None), ("1[0]", None), ("- [0]", 1), (" 0", 0), ("[0]\n", 3), ("[0] + 00[1]", 7)):
            self.assertEqual(KINDS.fault(text), index)
            if index is not None:
                self.assert_fault(index, read_kinds, text, 3)
        self.assertEqual(read_kinds("[0] - 0[1] + 1[1]", 3), (1, 1, 0))

    def test_terms_of_one_index(self):
        self.assertEqual(read_kinds("[1] + 2[0] - 3[1] + [1] - [2] - 0[2]", 3), (2, -1, -1))
        self.assertEqual(read_kinds(f"{LONG}[0] + [0] - 2[0]", 1), (LONG - 1,))
        self.assertEqual(read_kinds(f"-{LONG}[0] - [0] + [0]", 1), (-LONG,))
        self.assert_raises(InvalidKinds, read_kinds, f"{LONG}[0] + [0]", 1)
        self.assert_raises(InvalidKinds, read_kinds, f"-{LONG}[1] - [1]", 2)
        self.assert_raises(InvalidKinds, read_kinds, f"{LONG}[0] - 2[0] + 2[0] + [0]", 3)

    def test_indices(self):
        self.assertEqual((read_kinds("[59]", 60)[59], read_kinds("0", 60), read_kinds("[0]", 1)), (1, (0,) * 60, (1,)))
        for text, length in (("[1]", 1), ("[60]", 60), ("0[3]", 3), ("[0] - [0] + [2] - [2]", 2), (f"[{LONG}]", 60), ("0[5] + [0]", 5)):
            self.assert_raises(InvalidKinds, read_kinds, text, length)
        self.assert_fault(4, read_kinds, "[9] ", 2)

    def test_sixty_and_sixty_one_digits(self):
        self.assertEqual(read_kinds(f"{LONG}[0] - {LONG}[1]", 2), (LONG, -LONG))
        self.assert_fault(60, read_kinds, f"{10 ** 60}[0]", 2)
        self.assert_fault(61, read_kinds, f"-{10 ** 60}[0]", 2)
        self.assert_fault(61, read_kinds, f"[{10 ** 60}]", 2)
        self.assert_fault(66, read_kinds, f"[0] + {10 ** 60}[0]", 2)

    def test_long_texts(self):
        text = "10[0]" + " + [0]" * 499 + " "
        self.assertEqual(len(text), 3000)
        self.assert_fault(3000, read_kinds, text, 1)
        self.assert_fault(0, read_kinds, text + "+", 1)
        text = "100[0]" + " + [0]" * 499
        self.assertEqual((len(text), read_kinds(text, 1)), (3000, (599,)))
        self.assert_fault(0, read_kinds, "1" + text, 1)


class Lines(TextCase):

    def test_lines(self):
        for group in (THREE, SQUARE, FIVE, ALONE, double_group(), many_turning(2, 2, 2)):
            right = []
            for (size, _), row in zip(class_sizes(group), mark_table(group)):
                right.append(str(size) + ": " + " ".join(map(str, row)))
            self.assertEqual(list(table_lines(group)), right)
        self.assertEqual(list(table_lines(ALONE)), ["1: 1"])


class Wrong(TextCase):

    def test_what_is_written(self):
        self.assert_refused(write_group, (THREE,), (InvalidGroup, NO_GROUPS))
        self.assert_refused(first_of(table_lines), (THREE,), (InvalidGroup, NO_GROUPS))
        told = table_lines(None)
        self.assert_raises(InvalidGroup, next, told)
        moves = WRONG + ((), (1,), (0, 0), (0, 2), (1, 2), [0], [1, 0], tuple(range(25)), (0, True), (False,), (0, 1, None), "()", "0", 0, ((0,),))
        self.assert_refused(write_move, ((1, 0),), (InvalidMove, moves))
        self.assert_refused(write_row, ((1, 0),), (InvalidRow, NO_MEMBERS))
        self.assert_refused(write_kinds, ((1, 0),), (InvalidKinds, NO_MEMBERS))
        self.assertEqual((write_row((0,) * 60)[:4], write_kinds((LONG,)), write_move(tuple(range(24)))), ("0,0,", f"{LONG}[0]", "()"))

    def test_what_is_read(self):
        for value in NO_TEXTS:
            self.assert_fault(0, read_group, value)
            self.assert_fault(0, read_row, value)
            for number in (2, 0, 10 ** 60, None, True):
                self.assert_fault(0, read_move, value, number)
                self.assert_fault(0, read_kinds, value, number)

    def test_numbers(self):
        for text in ("()", "(0 1)", "", "(0", "(0 0)", "x" * 3000):
            for value in NO_PLACES:
                self.assert_number(value, read_move, text, value)
        for text in ("0", "[0]", "", "[0", "[99]", "x" * 3000):
            for value in NO_LENGTHS:
                self.assert_number(value, read_kinds, text, value)

    def test_signs_that_no_text_has(self):
        for text in (value for value in WRONG if isinstance(value, str) and value != "0"):
            for call, passed in ((read_group, ()), (read_row, ()), (read_move, (3,)), (read_kinds, (3,))):
                self.assert_fault(0, call, text, *passed)
        self.assertEqual((read_row("0"), read_kinds("0", 1)), ((0,), (0,)))
        self.assert_fault(0, read_move, "0", 1)
        self.assert_fault(1, read_group, "0")


if __name__ == "__main__":
    unittest.main()
