"""[19.1] and [19.2]: promises about kinds, and papers against them."""

import unittest
from itertools import product

from helpers import ALONE, Case, FIVE, NO_GROUPS, NO_ROWS, PAIRS, SQUARE, THREE, WRONG
from movemarks.desk.promises import does_hold, is_paper_against, is_promise, paper_against
from movemarks.errors import InvalidGroup, InvalidKinds, InvalidPromise
from movemarks.mark.marks import mark_table
from movemarks.square.signs import each_sign_row, sign_paper
from movemarks.square.squares import square_kinds

LONG = 10 ** 60 - 1
SET, FREE, SIGNS, SQUARES = ("set",), ("free",), ("signs",), ("squares",)
PROMISES = (SET, FREE, SIGNS, SQUARES, ("mark", 0, -2, 5), ("mark", 1, 0, 0), ("mark", 2, 1, 3), ("mark", 3, -1, 1), ("mark", 1, 2, 1),
            ("parts", 0, 2), ("parts", -1, -1), ("parts", 1, 0), ("mark", 0, -LONG, LONG), ("parts", -LONG, LONG))
# None of these is a promise for THREE.
NO_PROMISES = WRONG + (
    (), "set", ["set"], ("Set",), ("sets",), ("set", 0), ("set", ()), ("free", 1), ("signs", None), ("squares", "squares"), ("mark",), ("parts",),
    ("mark", 0), ("mark", 0, 1), ("mark", 0, 1, 2, 3), ("mark", 4, 0, 1), ("mark", -1, 0, 1), ("mark", True, 0, 1), ("mark", False, 0, 1),
    ("mark", 0, True, 1), ("mark", 0, 0, False), ("mark", 0, None, 1), ("mark", 0, 0, None), ("mark", 0, "0", 1), ("mark", 0, (0,), 1),
    ("mark", None, 0, 1), ("mark", 0, 10 ** 60, 1), ("mark", 0, 0, -10 ** 60), ["mark", 0, 0, 1], ("marks", 0, 0, 1), ("parts", 0), ("parts", 0, 1, 2),
    ("parts", True, 1), ("parts", 0, False), ("parts", None, 0), ("parts", 0, 10 ** 60), ("parts", -10 ** 99, 0), ["parts", 0, 1], ("part", 0, 1),
    (True,), (0,), (("set",),), ("set", "free"), ("kind", 0, 1), ("mark", (0,), 0, 1), ("parts", (0,), 1), (SET, FREE), {0: "set"}, (THREE, 0, 1))


def marks(group, kinds):
    return [sum(mark * many for mark, many in zip(line, kinds)) for line in mark_table(group)]


def holds(group, kinds, promise):
    """Whether a promise holds, told anew."""
    row = marks(group, kinds)
    if promise[0] == "set":
        return min(kinds) >= 0
    if promise[0] == "free":
        return not any(kinds[1:])
    if promise[0] == "signs":
        return set(row) <= {1, -1}
    if promise[0] == "squares":
        return set(row) <= {0, 1}
    number = row[promise[1]] if promise[0] == "mark" else sum(kinds)
    return promise[-2] <= number <= promise[-1]


def papers(group, kinds, promise):
    """All papers against a promise, told anew."""
    found = set()
    for index, (many, mark) in enumerate(zip(kinds, marks(group, kinds))):
        if (promise == SET and many < 0) or (promise == FREE and index > 0 and many != 0):
            found.add(("kind", index, many))
        if promise == SIGNS and mark not in (1, -1) or promise == SQUARES and mark not in (0, 1):
            found.add(("mark", index, mark))
        if promise[0] == "mark" and index == promise[1] and not promise[2] <= mark <= promise[3]:
            found.add(("mark", index, mark))
    if promise[0] == "parts" and not promise[1] <= sum(kinds) <= promise[2]:
        found.add(("parts", sum(kinds)))
    return found


class Promises(Case):

    def test_promises(self):
        for promise in PROMISES:
            self.assert_true(is_promise(THREE, promise))
        for value in NO_PROMISES:
            self.assert_false(is_promise(THREE, value))
        for group, many in ((ALONE, 1), (THREE, 4), (PAIRS, 5), (SQUARE, 8), (FIVE, 9)):
            for index in range(-1, many + 2):
                self.assertIs(is_promise(group, ("mark", index, 0, 1)), 0 <= index < many)

    def test_all_kinds(self):
        for group in (ALONE, THREE):
            for promise in PROMISES:
                if is_promise(group, promise):
                    for kinds in product(range(-2, 4), repeat=len(mark_table(group))):
                        right = papers(group, kinds, promise)
                        self.assertIs(does_hold(group, kinds, promise), holds(group, kinds, promise))
                        self.assertEqual(holds(group, kinds, promise), not right)
                        paper = paper_against(group, kinds, promise)
                        self.assertIs(paper is None, not right)
                        if right:
                            self.assertIn(paper, right)

    def test_all_papers(self):
        told = [("kind", index, number) for index in range(4) for number in range(-3, 4)]
        told += [("mark", index, number) for index in range(4) for number in range(-4, 9)] + [("parts", number) for number in range(-4, 5)]
        for promise in PROMISES:
            for kinds in ((0, 0, 0, 0), (0, 1, 0, 0), (1, 0, -1, 1), (-1, 2, 1, -1), (0, 0, 0, 1), (1, 0, 0, 0), (0, 0, -2, 0), (-1, 0, 0, -1), (0, 3, 0, -1)):
                right = papers(THREE, kinds, promise)
                for value in told:
                    self.assertIs(is_paper_against(THREE, kinds, promise, value), value in right)

    def test_long_integers(self):
        kinds = (LONG, LONG, LONG, LONG)
        row = marks(THREE, kinds)
        self.assertEqual(paper_against(THREE, kinds, ("mark", 0, 0, LONG)), ("mark", 0, 12 * LONG))
        self.assertEqual(paper_against(THREE, kinds, ("parts", 0, LONG)), ("parts", 4 * LONG))
        self.assert_true(is_paper_against(THREE, kinds, ("mark", 0, 0, LONG), ("mark", 0, row[0])))
        self.assert_true(is_paper_against(THREE, kinds, ("parts", 0, LONG), ("parts", 4 * LONG)))
        self.assert_true(is_paper_against(THREE, kinds, SIGNS, ("mark", 0, row[0])))
        self.assert_false(is_paper_against(THREE, kinds, ("parts", 0, LONG), ("parts", 4 * LONG + 10 ** 90)))
        self.assert_true(does_hold(THREE, (-LONG, 0, 0, LONG), ("parts", 0, 0)))

    def test_bounds(self):
        for least, most in ((2, 4), (3, 3), (4, 2), (4, 9), (-9, 2), (-9, 3), (3, 9)):
            self.assertIs(does_hold(THREE, (0, 1, 0, 0), ("mark", 0, least, most)), least <= 3 <= most)
            self.assertIs(does_hold(THREE, (0, 4, 0, -1), ("parts", least, most)), least <= 3 <= most)

    def test_rows_that_other_parts_tell(self):
        for row in each_sign_row(SQUARE):
            self.assert_true(does_hold(SQUARE, sign_paper(SQUARE, row)[1], SIGNS))
        for kinds in square_kinds(FIVE):
            self.assert_true(does_hold(FIVE, kinds, SQUARES))
        self.assertEqual(paper_against(FIVE, square_kinds(FIVE)[1], SET), ("kind", 0, -1))

    def test_group_of_one_move(self):
        self.assert_true(does_hold(ALONE, (-7,), FREE))
        self.assertEqual(paper_against(ALONE, (-7,), SET), ("kind", 0, -7))
        self.assertEqual((paper_against(ALONE, (2,), SIGNS), paper_against(ALONE, (-1,), SIGNS)), (("mark", 0, 2), None))
        self.assertEqual((paper_against(ALONE, (-1,), SQUARES), paper_against(ALONE, (0,), SQUARES)), (("mark", 0, -1), None))

    def test_wrong_papers(self):
        kinds = (0, -1, 2, 0)
        right = {SET: ("kind", 1, -1), FREE: ("kind", 2, 2), SIGNS: ("mark", 3, 0), SQUARES: ("mark", 2, 4), ("mark", 2, 0, 3): ("mark", 2, 4),
                 ("parts", 2, 3): ("parts", 1)}
        for promise, paper in right.items():
            self.assert_true(is_paper_against(THREE, kinds, promise, paper))
            shapes = [list(paper), paper + (0,), paper[:-1], (paper[0].upper(),) + paper[1:], paper[1:], paper[::-1], (None,) + paper[1:], (paper,), ()]
            shapes += [paper[:-1] + (value,) for value in WRONG if value != paper[-1] or value is True]
            shapes += [paper[:1] + (value,) + paper[2:] for value in WRONG + (4, -1)] if len(paper) == 3 else []
            shapes += [("kind", 0, 0), ("kind", 3, 0), ("mark", 1, -2), ("parts", True), ("parts", 0), promise, (promise[0], 0, 0), ("kind", True, -1)]
            for value in list(WRONG) + shapes:
                self.assert_false(is_paper_against(THREE, kinds, promise, value))

    def test_values_that_are_only_equal(self):
        # True is not 1, False is not 0, and -1 is no index.
        for kinds, promise, right, wrong in (((0, 1, 0, 0), FREE, ("kind", 1, 1), ("kind", 1, True)), ((0, 1, 0, 0), FREE, ("kind", 1, 1), ("kind", True, 1)),
                                             ((1, 0, 0, 0), SIGNS, ("mark", 1, 0), ("mark", 1, False)), ((1, 0, 0, 0), SIGNS, ("mark", 1, 0), ("mark", True, 0)),
                                             ((0, 0, 0, 1), ("mark", 3, 2, 2), ("mark", 3, 1), ("mark", 3, True)), ((0, 0, 0, 1), ("parts", 2, 2), ("parts", 1), ("parts", True)),
                                             ((-2, 0, 0, 0), SET, ("kind", 0, -2), ("kind", False, -2)), ((0, 0, 0, 2), FREE, ("kind", 3, 2), ("kind", -1, 2)),
                                             ((0, 0, 0, -2), SET, ("kind", 3, -2), ("kind", -1, -2)), ((0, 0, 0, 2), SIGNS, ("mark", 3, 2), ("mark", -1, 2)),
                                             ((0, 0, 0, 2), SQUARES, ("mark", 3, 2), ("mark", -1, 2)), ((0, 0, 0, 2), ("mark", 3, 0, 1), ("mark", 3, 2), ("mark", -1, 2))):
            self.assert_true(is_paper_against(THREE, kinds, promise, right))
            self.assert_false(is_paper_against(THREE, kinds, promise, wrong))

    def test_papers_against_what_holds(self):
        for promise in (SET, SIGNS, SQUARES, ("mark", 0, 0, 1), ("parts", 0, 1)):
            for value in (None, (), ("none",), ("kind", 3, 1), ("kind", 0, 0), ("mark", 0, 1), ("mark", 3, 1), ("parts", 1)):
                self.assert_false(is_paper_against(THREE, (0, 0, 0, 1), promise, value))


class Wrong(Case):

    def test_wrong_arguments(self):
        groups, kinds, promise = (InvalidGroup, NO_GROUPS), (InvalidKinds, NO_ROWS), (InvalidPromise, NO_PROMISES)
        self.assert_refused(is_promise, (THREE, None), groups)
        for call in (does_hold, paper_against):
            self.assert_refused(call, (THREE, (0, -1, LONG, 2), ("mark", 3, LONG, -LONG)), groups, kinds, promise)
        self.assert_refused(is_paper_against, (THREE, (0, -1, LONG, 2), SET, None), groups, kinds, promise)


if __name__ == "__main__":
    unittest.main()
