"""[19.3] to [19.5]: desks, deeds and versions."""

import unittest
from itertools import product

from helpers import ALONE, Case, FIVE, NO_GROUPS, NO_ROWS, PAIRS, SQUARE, THREE, WRONG
from movemarks.desk import desks
from movemarks.desk.desks import Desk
from movemarks.desk.promises import does_hold, is_paper_against
from movemarks.errors import (InvalidGroup, InvalidKinds, InvalidNumber, InvalidOperation, InvalidPromise, NothingToUndo, Refused, TooMany,
                               UnknownName)
from movemarks.made.sums import product_kinds
from movemarks.mark.marks import marks_of
from movemarks.move.groups import Group
from test_promises import NO_PROMISES

LONG = 10 ** 60 - 1
PLACES = (0, 1, 0, 0)
SET, FREE, SIGNS, SQUARES = ("set",), ("free",), ("signs",), ("squares",)
# Eight unlike promises, all of which hold for the kinds (0, 1, 0, 0) of THREE, and a ninth one.
EIGHT = (SET, ("mark", 0, 3, 9), ("mark", 0, 0, 9), ("mark", 1, 0, 9), ("mark", 2, 0, 9), ("mark", 3, 0, 9), ("parts", 0, 9), ("parts", 1, 9))
NINTH = ("parts", 1, 8)
# None of these is a deed for THREE.
NO_DEEDS = WRONG + tuple((word, kinds) for word in ("plus", "less", "times") for kinds in NO_ROWS) + tuple(
    ("many", value) for value in WRONG if value != -1) + tuple(("without", value) for value in WRONG + (4, -1, (0,), "0")) + (
    (), ("plus",), ("many",), ("without",), ("many", 1, 2), ("plus", PLACES, PLACES), ["plus", PLACES], ("Plus", PLACES), ("minus", PLACES),
    ("plus", 0), ("many", PLACES), ("without", PLACES), ("many", (1,)), ("many", "1"), (PLACES, "plus"), (None, PLACES), ("plus", (0,) * 5),
    (True, 1), ("set",), ("mark", 0, 1, 2), "plus", ("less", None))
NO_TUPLES = WRONG + ((), [("many", 2)], ("many", 2), (("many", 2),) * 21, (("many", 1),) * 200, "many", {0: ("many", 2)}, None)
NO_COUNTS = WRONG + (0, -2, (1,), "1")
NO_VERSIONS = WRONG + (3, 4, -1, "0", (0,), 10 ** 59)


def state(desk):
    return desk.group, desk.kinds, desk.marks, desk.promises, desk.version, len(desk), list(desk), str(desk)


def behind(group, kinds, deed):
    """The kinds behind a deed, told anew."""
    word, given = deed
    if word == "plus":
        return tuple(map(lambda a, b: a + b, kinds, given))
    if word == "less":
        return tuple(map(lambda a, b: a - b, kinds, given))
    if word == "times":
        return product_kinds(group, kinds, given)
    if word == "many":
        return tuple(given * many for many in kinds)
    return kinds[:given] + (0,) + kinds[given + 1:]


class DeskCase(Case):

    def assert_unchanged(self, error, desk, call, *passed):
        """Asks for an error, that it keeps what it must, and that the desk and its earlier versions stay as they were."""
        before, earlier = state(desk), [state(desk.at(version)) for version in range(desk.version + 1)]
        caught = self.assert_raises(error, call, *passed)
        self.assertEqual(state(desk), before)
        self.assertEqual([state(desk.at(version)) for version in range(desk.version + 1)], earlier)
        return caught


class Desks(DeskCase):

    def test_constants(self):
        self.assertEqual((desks.MAX_PROMISES, desks.MAX_DEEDS), (8, 20))

    def test_new_desks(self):
        for group, kinds in ((THREE, PLACES), (ALONE, (-3,)), (FIVE, (0, 0, 1, 0, 0, -2, 0, 0, LONG)), (SQUARE, (0,) * 8)):
            desk = Desk(group, kinds)
            self.assertEqual((desk.group, desk.kinds, desk.marks), (group, kinds, marks_of(group, kinds)))
            self.assertEqual((desk.promises, desk.version, len(desk), list(desk)), ((), 0, 0, []))
            self.assertEqual(str(desk), f"desk of kinds {' '.join(map(str, kinds))}, 0 promises")

    def test_all_deeds(self):
        # [19.3]
        for group, first, second in ((THREE, (0, 1, -1, 2), (1, 0, 2, -1)), (PAIRS, (0, 1, 1, 0, -1), (1, -1, 0, 2, 3)), (ALONE, (3,), (-2,))):
            deeds = [(word, second) for word in ("plus", "less", "times")] + [("many", number) for number in (-3, 0, 1, 2)]
            deeds += [("without", index) for index in range(len(first))]
            for one, other in product(deeds, repeat=2):
                desk = Desk(group, first)
                between = behind(group, first, one)
                right = behind(group, between, other)
                self.assertEqual(desk.would((one, other)), ())
                self.assertEqual((desk.kinds, desk.version), (first, 0))
                self.assertEqual(desk.do((one, other)), int(right != first))
                self.assertEqual((desk.kinds, desk.marks, desk.version), (right, marks_of(group, right), int(right != first)))
                step = Desk(group, first)
                step.do((one,))
                self.assertEqual(step.kinds, between)
                self.assertEqual(step.do((other,)), int(between != first) + int(right != between))
                self.assertEqual(step.kinds, right)

    def test_products_of_marks(self):
        desk = Desk(THREE, (0, 1, 1, -2))
        marks = desk.marks
        desk.do((("times", (1, -1, 0, 3)),))
        self.assertEqual(desk.marks, tuple(a * b for a, b in zip(marks, marks_of(THREE, (1, -1, 0, 3)))))

    def test_deeds_that_change_nothing(self):
        desk = Desk(THREE, PLACES)
        desk.promise(SET)
        for deeds in ((("many", 1),), (("without", 0),), (("plus", (0,) * 4),), (("times", (0, 0, 0, 1)),), (("many", -1), ("many", -1)),
                      (("plus", PLACES), ("less", PLACES)), (("without", 1), ("plus", PLACES))):
            self.assertEqual((desk.do(deeds), desk.version, desk.kinds), (1, 1, PLACES))
        self.assertEqual(desk.do((("many", 2),)), 2)

    def test_twenty_and_twenty_one_deeds(self):
        for many in (1, 2, 19, 20):
            desk = Desk(THREE, (0, 0, 0, 1))
            self.assertEqual(desk.would((("many", 2),) * many), ())
            self.assertEqual((desk.do((("many", 2),) * many), desk.kinds), (1, (0, 0, 0, 2 ** many)))
        for many in (0, 21, 22):
            for call in (desk.do, desk.would):
                self.assert_unchanged(InvalidOperation, desk, call, (("many", 2),) * many)

    def test_promises_hold_behind_all_deeds(self):
        # [19.5]: between them they need not hold.
        desk = Desk(THREE, PLACES)
        desk.promise(SET)
        deeds = (("less", (0, 5, 0, 0)), ("plus", (0, 6, 0, 0)))
        self.assertEqual((desk.would(deeds), desk.do(deeds), desk.kinds), ((), 2, (0, 2, 0, 0)))
        self.assertEqual(desk.would(deeds[:1]), (SET,))
        self.assert_unchanged(Refused, desk, desk.do, deeds[:1])

    def test_equal_desks(self):
        one, other = Desk(THREE, PLACES), Desk(Group.every(3), PLACES)
        self.assertTrue(one == other and not one != other)
        self.assertTrue(one != Desk(THREE, (0, 1, 0, 1)) and one != Desk(PAIRS, PLACES + (0,)))
        self.assertTrue(Desk(ALONE, (1,)) != Desk(Group(2, ()), (1,)))
        one.promise(SET)
        self.assertNotEqual(one, other)
        other.promise(("parts", 0, 1))
        one.promise(("parts", 0, 1))
        other.promise(SET)
        self.assertNotEqual(one, other)
        other.drop(("parts", 0, 1))
        other.promise(("parts", 0, 1))
        self.assertEqual(one, other)
        self.assertNotEqual(one.version, other.version)
        for value in WRONG:
            self.assertTrue(one != value and not one == value)

    def test_operators_and_iteration(self):
        desk = Desk(THREE, PLACES)
        for call in (lambda: desk + desk, lambda: desk * 2, lambda: desk - PLACES, lambda: desk < desk, lambda: desk[0]):
            self.assertRaises(TypeError, call)
        desk.promise(SET)
        desk.promise(("parts", 0, 1))
        found = iter(desk)
        self.assertEqual((next(found), list(desk), next(found)), (SET, [SET, ("parts", 0, 1)], ("parts", 0, 1)))
        self.assertEqual((len(desk), tuple(desk), str(desk)), (2, desk.promises, "desk of kinds 0 1 0 0, 2 promises"))


class Failing(DeskCase):

    def test_sixty_and_sixty_one_digits(self):
        for deed, kinds, fails in ((("many", 10), (0, 0, 0, 10 ** 58), False), (("many", 10), (0, 0, 0, 10 ** 59), True), (("many", -10), (0, 0, 10 ** 59, 0), True),
                                   (("plus", (1, 0, 0, 0)), (LONG - 1, 0, 0, 0), False), (("plus", (1, 0, 0, 0)), (LONG, 0, 0, 0), True),
                                   (("less", (1, 0, 0, 0)), (1 - LONG, 0, 0, 0), False), (("less", (1, 0, 0, 0)), (-LONG, 0, 0, 0), True),
                                   (("times", (0, 0, 0, 10 ** 30)), (0, 0, 0, 10 ** 29), False), (("times", (0, 0, 0, 10 ** 30)), (0, 0, 0, 10 ** 30), True),
                                   (("times", (1, 0, 0, 0)), (10 ** 59, 0, 0, 0), False), (("times", (2, 0, 0, 0)), (10 ** 59, 0, 0, 0), True),
                                   (("many", LONG), (0, -1, 0, 1), False), (("without", 3), (0, 0, LONG, -LONG), False)):
            desk = Desk(THREE, kinds)
            if fails:
                for call in (desk.do, desk.would):
                    caught = self.assert_unchanged(Refused, desk, call, (deed,))
                    self.assertEqual(caught.reason, ("deed", 0, "great"))
            else:
                self.assertEqual((desk.would((deed,)), desk.do((deed,)), desk.kinds), ((), 1, behind(THREE, kinds, deed)))

    def test_first_deed_that_fails(self):
        desk = Desk(THREE, PLACES)
        desk.promise(SET)
        great = ("many", 10 ** 59)
        for at in range(19):
            deeds = (("many", 1),) * at + (great, ("many", 10)) + (("without", 1),) * (18 - at)
            self.assertEqual(len(deeds), 20)
            for call in (desk.do, desk.would):
                caught = self.assert_unchanged(Refused, desk, call, deeds)
                self.assertEqual(caught.reason, ("deed", at + 1, "great"))
        # What fails goes ahead of what breaks a promise, also if the member would be small again in the end.
        caught = self.assert_unchanged(Refused, desk, desk.do, (("many", -1), great, ("many", 10), ("many", 0)))
        self.assertEqual(caught.reason, ("deed", 2, "great"))
        # What is wrong behind a deed that fails goes ahead of it.
        self.assert_unchanged(InvalidOperation, desk, desk.do, (great, ("many", 10), ("many", True)))
        self.assert_unchanged(InvalidOperation, desk, desk.would, (great, ("many", 10), ("without", 4)))

    def test_broken_promises(self):
        desk = Desk(THREE, PLACES)
        for promise in (("parts", 0, 3), SET, ("mark", 0, 0, 9)):
            desk.promise(promise)
        for deeds, broken in (((("many", 4),), (("parts", 0, 3), ("mark", 0, 0, 9))), ((("less", (0, 2, 0, 0)),), (("parts", 0, 3), SET, ("mark", 0, 0, 9))),
                              ((("less", (0, 1, 1, 0)), ("plus", (0, 0, 0, 2))), (SET,)), ((("plus", (1, 0, 0, 1)),), (("mark", 0, 0, 9),))):
            kinds = PLACES
            for deed in deeds:
                kinds = behind(THREE, kinds, deed)
            self.assertEqual(desk.would(deeds), broken)
            self.assertEqual(broken, tuple(promise for promise in desk if not does_hold(THREE, kinds, promise)))
            reason = self.assert_unchanged(Refused, desk, desk.do, deeds).reason
            self.assertEqual((len(reason), reason[:2]), (3, ("broken", broken[0])))
            self.assert_true(is_paper_against(THREE, kinds, broken[0], reason[2]))

    def test_all_promises_break(self):
        desk = Desk(THREE, PLACES)
        for promise in EIGHT:
            self.assert_true(desk.promise(promise))
        deeds = (("many", 3), ("less", (0, 7, 0, 0)), ("plus", (0, 0, 0, -1)), ("without", 0))
        self.assertEqual(desk.would(deeds), EIGHT)
        self.assertEqual(self.assert_unchanged(Refused, desk, desk.do, deeds).reason[:2], ("broken", SET))


class Promising(DeskCase):

    def test_promises(self):
        desk = Desk(THREE, PLACES)
        for at, promise in enumerate(EIGHT):
            self.assertNotIn(promise, desk)
            self.assert_true(desk.promise(promise))
            self.assertIn(promise, desk)
            self.assertEqual((desk.promises, desk.version, len(desk)), (EIGHT[:at + 1], at + 1, at + 1))
        for promise in EIGHT:
            self.assert_false(desk.promise(promise))
            self.assertEqual((desk.promises, desk.version), (EIGHT, 8))
        self.assertEqual(self.assert_unchanged(TooMany, desk, desk.promise, NINTH).most, 8)
        # A promise that does not hold goes ahead of the ninth one.
        for promise in (FREE, SIGNS, SQUARES, ("mark", 0, 4, 9), ("parts", 2, 9)):
            reason = self.assert_unchanged(Refused, desk, desk.promise, promise).reason
            self.assertEqual((len(reason), reason[:2]), (3, ("broken", promise)))
            self.assert_true(is_paper_against(THREE, PLACES, promise, reason[2]))
        self.assertEqual((desk.drop(SET), desk.promises, SET in desk), (9, EIGHT[1:], False))
        self.assertEqual((desk.promise(NINTH), desk.promises, desk.version), (True, EIGHT[1:] + (NINTH,), 10))

    def test_dropped_promises(self):
        desk = Desk(THREE, PLACES)
        for promise in EIGHT[:4]:
            desk.promise(promise)
        for version, at in ((5, 2), (6, 0), (7, 1), (8, 0)):
            promise = desk.promises[at]
            left = desk.promises[:at] + desk.promises[at + 1:]
            self.assertEqual((desk.drop(promise), desk.promises, desk.version), (version, left, version))
            self.assertEqual(self.assert_unchanged(UnknownName, desk, desk.drop, promise).wanted, promise)
        self.assertEqual(desk.promises, ())
        # What does not hold can be asked for, too.
        self.assertEqual(self.assert_unchanged(UnknownName, desk, desk.drop, SIGNS).wanted, SIGNS)
        desk.promise(SET)
        desk.do((("many", 5),))
        desk.drop(SET)
        self.assertEqual(desk.do((("many", -1),)), 12)

    def test_members(self):
        desk = Desk(THREE, PLACES)
        desk.promise(("mark", 1, 0, 1))
        self.assert_true(("mark", 1, 0, 1) in desk)
        for value in WRONG + NO_PROMISES + (("mark", True, 0, 1), ("mark", 1, False, 1), ("mark", 1, 0, True), ["mark", 1, 0, 1], ("mark", 1, 0), SET,
                                            ("mark", 1, 0, 2), ("mark", 0, 0, 1), ("parts", 0, 1)):
            self.assert_false(value in desk)


class Versions(DeskCase):

    def told(self):
        desk = Desk(THREE, PLACES)
        desk.promise(SET)
        desk.do((("many", 2),))
        desk.do((("plus", (0, 0, 0, 1)),))
        desk.promise(("parts", 0, 9))
        desk.drop(SET)
        desk.do((("times", (0, 0, 2, 0)),))
        return desk

    right = ((PLACES, ()), (PLACES, (SET,)), ((0, 2, 0, 0), (SET,)), ((0, 2, 0, 1), (SET,)), ((0, 2, 0, 1), (SET, ("parts", 0, 9))),
             ((0, 2, 0, 1), (("parts", 0, 9),)), ((4, 0, 2, 0), (("parts", 0, 9),)))

    def test_versions(self):
        # [19.4]
        desk = self.told()
        self.assertEqual(desk.version, 6)
        for version, (kinds, promises) in enumerate(self.right):
            earlier = desk.at(version)
            self.assertEqual((earlier.kinds, earlier.promises, earlier.version, earlier.group), (kinds, promises, 0, THREE))
            self.assertIsInstance(earlier, Desk)
        for version in (7, 8, -1, True, False, None, "1", (0,), 10 ** 60):
            self.assert_number(version, desk.at, version)
        self.assertEqual(desk.at(6), desk)
        self.assertIsNot(desk.at(6), desk)

    def test_steps_back(self):
        for count in range(1, 7):
            desk = self.told()
            self.assertEqual((desk.undo(count), desk.version), (6 - count, 6 - count))
            self.assertEqual((desk.kinds, desk.promises), self.right[6 - count])
            self.assert_number(7 - count, desk.at, 7 - count)
            for version in range(7 - count):
                self.assertEqual((desk.at(version).kinds, desk.at(version).promises), self.right[version])
            for more in (7 - count, 7, 100, LONG):
                self.assertEqual(self.assert_unchanged(NothingToUndo, desk, desk.undo, more).steps, more)
            # What lies behind is gone for good; the desk goes on from here.
            self.assertEqual(desk.do((("plus", (1, 1, 1, 1)),)), 7 - count)
            self.assertEqual((desk.undo(), desk.kinds), (6 - count, self.right[6 - count][0]))
        desk = self.told()
        self.assertEqual([desk.undo() for _ in range(6)], [5, 4, 3, 2, 1, 0])
        self.assertEqual((desk.kinds, desk.promises), self.right[0])
        self.assertEqual(self.assert_unchanged(NothingToUndo, desk, desk.undo).steps, 1)
        self.assertEqual(self.told().undo(count=6), 0)

    def test_desks_go_on_by_themselves(self):
        desk = self.told()
        before = state(desk)
        earlier = desk.at(3)
        self.assertEqual(earlier.do((("many", 3),)), 1)
        earlier.drop(SET)
        self.assertEqual(earlier.do((("many", -1),)), 3)
        self.assertEqual((state(desk), earlier.kinds), (before, (0, -6, 0, -3)))
        other = desk.at(3)
        self.assertEqual((other.kinds, other.promises), self.right[3])
        desk.undo(6)
        self.assertEqual((other.kinds, earlier.kinds, earlier.version), ((0, 2, 0, 1), (0, -6, 0, -3), 3))
        self.assertEqual(earlier.at(0), other)
        reason = self.assert_unchanged(Refused, other, other.do, (("many", -1),)).reason
        self.assertEqual(reason[:2], ("broken", SET))
        self.assertEqual(self.assert_unchanged(NothingToUndo, other, other.undo).steps, 1)

    def test_what_is_kept_is_no_part_of_what_was_passed(self):
        desk = Desk(THREE, PLACES)
        promises = desk.promises
        desk.promise(SET)
        self.assertEqual((promises, desk.promises), ((), (SET,)))
        for value in (desk.kinds, desk.marks, desk.promises, desk.would((("many", -1),))):
            self.assertIs(value.__class__, tuple)


class Wrong(DeskCase):

    def test_new_desks(self):
        self.assert_refused(Desk, (THREE, (0, -1, LONG, 2)), (InvalidGroup, NO_GROUPS), (InvalidKinds, NO_ROWS))

    def test_wrong_deeds(self):
        for call in ("do", "would"):
            for value in NO_TUPLES:
                self.assert_unchanged(InvalidOperation, *self.with_call(call), value)
            for value in NO_DEEDS:
                self.assert_unchanged(InvalidOperation, *self.with_call(call), (value,))
            for value in NO_DEEDS[::7]:
                self.assert_unchanged(InvalidOperation, *self.with_call(call), (("many", 2), value))
                self.assert_unchanged(InvalidOperation, *self.with_call(call), (("many", -1), value, ("many", 10 ** 59), ("many", 10)))

    def with_call(self, name):
        desk = Desk(THREE, PLACES)
        desk.promise(SET)
        desk.promise(("parts", 0, 5))
        return desk, getattr(desk, name)

    def test_wrong_promises(self):
        for call in ("promise", "drop"):
            for value in NO_PROMISES:
                self.assert_unchanged(InvalidPromise, *self.with_call(call), value)

    def test_wrong_counts(self):
        for value in NO_COUNTS:
            desk, call = self.with_call("undo")
            self.assertIs(self.assert_unchanged(InvalidNumber, desk, call, value).given, value)

    def test_wrong_versions(self):
        for value in NO_VERSIONS:
            desk, call = self.with_call("at")
            self.assertIs(self.assert_unchanged(InvalidNumber, desk, call, value).given, value)


class NotTrue(Case):

    def test_factors_from_zero_on(self):
        # [19.5]: a product without members below 0 of kinds that have some.
        desk = Desk(THREE, (-1, 0, 0, 0))
        desk.do((("times", (0, -1, 0, 0)),))
        self.assertEqual(desk.kinds, (3, 0, 0, 0))


if __name__ == "__main__":
    unittest.main()
