"""Tests of viewstrike.house: each method of House, each of its errors, and which of several is raised."""

import copy
import unittest

from tests.housemodel import start
from tests.samples import KEY, ODD_VALUES, PATH, grid
from viewstrike.checker import first_fault
from viewstrike.claims import decide
from viewstrike.errors import (
    AlreadyThere,
    AnswerBarred,
    AnswerLost,
    CannotTake,
    InvalidAnswer,
    InvalidQuery,
    InvalidRow,
    InvalidRules,
    InvalidStrike,
    NoAnswer,
    NothingDone,
    NotThere,
    Refused,
    RuleBroken,
    TableFull,
    TooMany,
)
from viewstrike.house import House
from viewstrike.singles import single_losses
from viewstrike.strikes import loss_of, takes_out

CROSS = ((0, 1), ((0,), (1,)))
DEEP = ((((((((((((0,),),),),),),),),),),),)
SHAPES = ODD_VALUES + (7, -1, 10**40, b"", "put", (0,) * 100000, DEEP, [(0, 0)], {"put": 0}, ((0, 0),) * 2)


def told_of(house):
    """Return all that a house tells without arguments, and its losses."""
    return (house.store(), house.view(), house.kept(), house.barred(), house.deeds(), len(house))


def filled(sizes, head):
    """Return a house whose tables share no variable and have so many rows, put in as several groups of deeds."""
    query, store = grid(sizes, head)
    house = House(query, ())
    for t, table in enumerate(store):
        house += tuple([("put", t, row) for row in table])
    return house


class HouseCase(unittest.TestCase):
    def check_error(self, house, error, values, method, *arguments, **named):
        """Check that the method raises this error with these attributes, and that nothing changes behind it."""
        before, copies = told_of(house), copy.deepcopy((arguments, named))
        with self.assertRaises(error) as caught:
            getattr(house, method)(*arguments, **named)
        self.assertIs(type(caught.exception), error)
        told = tuple(vars(caught.exception).values())
        self.assertEqual((told, str(told)), (values, str(values)))
        self.assertEqual(told_of(house), before)
        self.assertEqual((arguments, named), copies)

    def check_refused(self, house, deeds, index, reason):
        before, same = told_of(house), house
        with self.assertRaises(Refused) as caught:
            house += deeds
        told = (caught.exception.index, caught.exception.reason)
        self.assertEqual((told, str(told)), ((index, reason), str((index, reason))))
        self.assertIs(house, same)
        self.assertEqual(told_of(house), before)


class NewHouseTest(HouseCase):
    def test_a_new_house_is_empty(self):
        house = House(rules=KEY, query=PATH)
        self.assertEqual(told_of(house), (((), ()), (), (), (), (), 0))
        self.assertEqual(House(((), ((0,),)), ()).view(), ())
        self.assertRaises(NothingDone, house.undo)

    def test_queries_and_rules_of_any_kind(self):
        for value, index in (
            (None, None), (True, None), ([], None), (list(PATH), None), ((), None), (((), ()), None),
            (((), ((0,), (0, 0))), 1), (((), ((0,), [1])), 1), (((1, 0), PATH[1]), -1), (((True,), ((1,),)), -1),
            (((), ((False,),)), 0), ("ab", None), ({}, None), ((PATH, PATH), 1), (House(PATH, ()), None),
        ):
            for rules in ((), None, KEY, [()]):
                with self.assertRaises(InvalidQuery) as caught:
                    House(value, rules)
                self.assertEqual(caught.exception.index, index, value)
        for value, index in (
            (None, None), ([], None), (KEY * 7, None), ("", None), ((None,), 0), (KEY + ((0, (0,), 1),), 1), ({}, None),
            (KEY + (list(KEY[0]),), 1), (((False, (0,), 2),), 0), (((0, (0,), True),), 0), (House(PATH, ()), None),
        ):
            with self.assertRaises(InvalidRules) as caught:
                House(PATH, value)
            self.assertEqual(caught.exception.index, index, value)
        self.assertEqual(len(House(PATH, KEY * 6)), 0)

    def test_each_method_stands_in_the_class_itself(self):
        names = "put drop strike keep release bar lift store view kept barred deeds losses least paper_of plan"
        for name in names.split() + ["sizes", "undo", "twin", "__init__", "__len__", "__eq__", "__iadd__"]:
            self.assertIn(name, vars(House))


class RowsTest(HouseCase):
    def test_put(self):
        house = House(PATH, ())
        self.assertIsNone(house.put(0, (5, 7)))
        self.assertIsNone(house.put(row=(5, 1), t=0))
        self.assertIsNone(house.put(1, (1, 999)))
        self.assertEqual(house.store(), (((5, 1), (5, 7)), ((1, 999),)))
        self.assertEqual(house.view(), ((5, 999),))
        self.assertEqual(house.deeds(), (("put", 0, (5, 7)), ("put", 0, (5, 1)), ("put", 1, (1, 999))))
        self.assertEqual(len(house), 3)

    def test_values_that_are_no_rows(self):
        house = House(PATH, ())
        house.put(0, (0, 0))
        house.put(1, (1, 0))
        for method in ("put", "drop"):
            for t in SHAPES + (2, -1, False, True, "0", (0,), House(PATH, ())):
                for row in ((0, 0), (1, 0), None):
                    if type(t) is not int or not 0 <= t < 2:
                        self.check_error(house, InvalidRow, (), method, t, row)
            for row in SHAPES + (
                (0,), (0, 0, 0), [0, 0], (False, 0), (0, False), (True, 0), (0, -1), (0, 1000), ("0", "0"), (0, None),
                (0, (0,)), {0: 0}, "00", (0, 10**40), House(PATH, ()),
            ):
                for t in (0, 1):
                    self.check_error(house, InvalidRow, (), method, t, row)
        house.put(0, (999, 0))
        house.drop(0, (999, 0))

    def test_a_row_that_is_there_or_not(self):
        house = House(PATH, ())
        house.put(0, (1, 2))
        self.check_error(house, AlreadyThere, (), "put", 0, (1, 2))
        self.check_error(house, NotThere, (), "drop", 1, (1, 2))
        self.check_error(house, NotThere, (), "drop", 0, (2, 1))
        house.put(1, (1, 2))
        self.assertIsNone(house.drop(row=(1, 2), t=0))
        self.check_error(house, NotThere, (), "drop", 0, (1, 2))
        house.put(0, (1, 2))
        self.assertEqual(house.deeds()[2:], (("drop", 0, (1, 2)), ("put", 0, (1, 2))))

    def test_twelve_rows_in_a_table(self):
        house = filled((12, 11), (0,))
        self.check_error(house, TableFull, (0,), "put", 0, (12,))
        self.check_error(house, AlreadyThere, (), "put", 0, (11,))
        self.check_error(house, InvalidRow, (), "put", 0, (1000,))
        house.put(1, (11,))
        self.check_error(house, TableFull, (1,), "put", 1, (500,))
        house.drop(1, (0,))
        house.put(1, (500,))
        self.check_error(house, TableFull, (1,), "put", 1, (0,))

    def test_rules(self):
        rules = ((0, (0,), 1), (0, (1,), 0), (1, (), 2))
        house = House(((), ((0, 1), (2, 1))), rules)
        house += (("put", 0, (1, 1)), ("put", 1, (5, 1)))
        self.check_error(house, RuleBroken, (0,), "put", 0, (1, 2))
        self.check_error(house, RuleBroken, (1,), "put", 0, (2, 1))
        self.check_error(house, RuleBroken, (2,), "put", 1, (6, 1))
        house += (("put", 0, (2, 2)), ("put", 1, (5, 3)))
        self.check_error(house, RuleBroken, (0,), "put", 0, (1, 2))
        self.check_error(house, AlreadyThere, (), "put", 0, (2, 2))
        house.drop(0, (1, 1))
        house.put(0, (1, 9))

    def test_a_full_table_comes_before_a_rule(self):
        house = House(((0,), ((0, 1),)), ((0, (0,), 1),))
        house += tuple([("put", 0, (k, 0)) for k in range(12)])
        house.bar((12,))
        self.check_error(house, TableFull, (0,), "put", 0, (0, 1))
        self.check_error(house, TableFull, (0,), "put", 0, (12, 1))

    def test_barred_answers(self):
        house = House(PATH, KEY)
        house += (("put", 0, (0, 5)), ("put", 0, (1, 5)), ("bar", (1, 7)), ("bar", (0, 7)), ("bar", (0, 8)))
        self.check_error(house, AnswerBarred, (0,), "put", 1, (5, 7))
        self.check_error(house, AnswerBarred, (2,), "put", 1, (5, 8))
        house.put(1, (6, 7))
        self.check_error(house, RuleBroken, (0,), "put", 0, (0, 6))
        house.lift((1, 7))
        self.check_error(house, AnswerBarred, (0,), "put", 1, (5, 7))
        house.lift((0, 7))
        house.put(1, (5, 7))
        self.assertEqual(house.view(), ((0, 7), (1, 7)))
        self.check_error(house, AnswerBarred, (0,), "put", 1, (5, 8))

    def test_a_barred_answer_of_an_empty_head(self):
        house = House(((), PATH[1]), ())
        house += (("put", 0, (0, 0)), ("bar", ()))
        self.check_error(house, AnswerBarred, (0,), "put", 1, (0, 3))
        house.put(1, (1, 3))
        self.check_error(house, AnswerBarred, (0,), "put", 0, (9, 1))

    def test_kept_answers(self):
        house = House(PATH, ())
        house += tuple([("put", 0, (a, b)) for a in (0, 1) for b in (0, 1)] + [("put", 1, (0, 7)), ("put", 1, (1, 8))])
        house += (("keep", (1, 7)), ("keep", (0, 8)))
        self.check_error(house, AnswerLost, (0,), "drop", 1, (0, 7))
        self.check_error(house, AnswerLost, (1,), "drop", 1, (1, 8))
        self.check_error(house, AnswerLost, (1,), "drop", 0, (0, 1))
        house.drop(0, (0, 0))
        self.check_error(house, AnswerLost, (0,), "strike", ((1, 0), (1, 1)))
        self.check_error(house, AnswerLost, (1,), "strike", ((0, 0),))
        self.check_error(house, NotThere, (), "drop", 0, (0, 0))
        self.assertEqual(house.store()[0], ((0, 1), (1, 0), (1, 1)))
        house.release((1, 7))
        self.check_error(house, AnswerLost, (0,), "strike", ((0, 0),))
        house.strike(((0, 1), (1, 0)))
        self.assertEqual(house.view(), ((0, 8), (1, 8)))


class StrikeTest(HouseCase):
    def test_strike(self):
        house = House(PATH, KEY)
        house += (("put", 0, (0, 5)), ("put", 1, (5, 7)), ("put", 1, (5, 8)))
        told = house.losses((0, 7))
        self.assertIsNone(house.strike(((1, 0),)))
        self.assertEqual((told, house.view(), len(house)), ((1, 0), ((0, 8),), 4))
        # Row numbers are those of the store at that time.
        self.assertIsNone(house.strike(strike=((0, 0), (1, 0))))
        self.assertEqual((house.store(), house.deeds()[-1]), (((), ()), ("strike", ((0, 0), (1, 0)))))

    def test_an_empty_strike_is_a_deed(self):
        house = filled((1, 1), (0, 1))
        before = house.store()
        self.assertIsNone(house.strike(()))
        self.assertEqual((house.store(), len(house), house.deeds()[-1]), (before, 3, ("strike", ())))
        house = House(PATH, ())
        house.strike(())
        self.assertEqual((house.store(), len(house)), (((), ()), 1))

    def test_values_that_are_no_strikes(self):
        house = filled((2, 2), (0, 1))
        house.keep((0, 0))
        for value, index in (
            (None, None), (True, None), (0, None), ("", None), ([], None), ([(0, 0)], None), ({}, None), ((0, 0), 0),
            (((0, 0), (0, 0)), 1), (((0, 1), (0, 0)), 1), (((0, 2),), 0), (((2, 0),), 0), (((0, 0), (0, True)), 1),
            (((False, 0),), 0), (((0, -1),), 0), (((-1, 0),), 0), (((0, 0), None), 1), (((0, 0), [0, 1]), 1),
            (((0, 0, 0),), 0), (((0,),), 0), (((0, 0), (1, 0), (0, 1)), 2), ((0,) * 100000, 0), (DEEP, 0), ((None,), 0),
            ((("0", "0"),), 0), (House(PATH, ()), None), (((0, 0), (1, 0), (1, 2)), 2),
        ):
            self.check_error(house, InvalidStrike, (index,), "strike", value)
        self.check_error(house, AnswerLost, (0,), "strike", ((0, 0), (1, 0)))


class AnswersTest(HouseCase):
    def test_values_that_are_no_answers(self):
        house = filled((2, 2), (0, 1))
        house += (("keep", (0, 0)), ("keep", (1, 1)), ("bar", (7, 7)))
        for method in ("keep", "release", "bar", "lift"):
            for value in SHAPES + (
                (0,), (0, 0, 0), [0, 0], (False, 0), (0, False), (True, True), (0, -1), (0, 1000), ("0", "0"),
                (0, None),
                {0: 0}, "00", (7, 10**40), ((0, 0),), House(PATH, ()),
            ):
                self.check_error(house, InvalidAnswer, (), method, value)

    def test_keep_and_release(self):
        house = filled((2, 2), (0, 1))
        self.check_error(house, NotThere, (), "keep", (0, 2))
        self.assertIsNone(house.keep((1, 1)))
        self.check_error(house, AlreadyThere, (), "keep", (1, 1))
        self.assertIsNone(house.keep(answer=(0, 1)))
        self.assertEqual(house.kept(), ((1, 1), (0, 1)))
        self.check_error(house, TooMany, (2,), "keep", (0, 0))
        self.check_error(house, AlreadyThere, (), "keep", (0, 1))
        self.check_error(house, NotThere, (), "keep", (2, 2))
        self.check_error(house, NotThere, (), "release", (0, 0))
        self.assertIsNone(house.release((1, 1)))
        self.check_error(house, NotThere, (), "release", (1, 1))
        house.keep((1, 1))
        self.assertEqual(house.kept(), ((0, 1), (1, 1)))
        house.release(answer=(0, 1))
        self.assertEqual(house.kept(), ((1, 1),))
        self.assertEqual(house.deeds()[-4:], (
            ("keep", (0, 1)), ("release", (1, 1)), ("keep", (1, 1)), ("release", (0, 1)),
        ))

    def test_bar_and_lift(self):
        house = filled((2, 2), (0, 1))
        self.check_error(house, AlreadyThere, (), "bar", (1, 1))
        house.keep((1, 1))
        self.check_error(house, AlreadyThere, (), "bar", (1, 1))
        for k in range(8):
            self.assertIsNone(house.bar((9 - k, 5)))
            self.check_error(house, AlreadyThere, (), "bar", (9 - k, 5))
        self.assertEqual(house.barred(), tuple([(9 - k, 5) for k in range(8)]))
        self.check_error(house, TooMany, (8,), "bar", (0, 5))
        self.check_error(house, AlreadyThere, (), "bar", (5, 5))
        self.check_error(house, AlreadyThere, (), "bar", (0, 0))
        self.check_error(house, NotThere, (), "lift", (0, 5))
        self.assertIsNone(house.lift(answer=(7, 5)))
        self.check_error(house, NotThere, (), "lift", (7, 5))
        house.bar(answer=(7, 5))
        self.assertEqual(house.barred(), ((9, 5), (8, 5), (6, 5), (5, 5), (4, 5), (3, 5), (2, 5), (7, 5)))

    def test_an_answer_that_is_gone_can_be_barred(self):
        house = filled((2, 2), (0, 1))
        house.strike(((0, 0),))
        house.bar((0, 0))
        self.check_error(house, AnswerBarred, (0,), "put", 0, (0,))
        house.lift((0, 0))
        house.put(0, (0,))
        self.assertEqual(house.view(), ((0, 0), (0, 1), (1, 0), (1, 1)))

    def test_the_answer_without_values(self):
        house = House(((), ((0,),)), ())
        self.check_error(house, NotThere, (), "keep", ())
        house.bar(())
        self.check_error(house, AnswerBarred, (0,), "put", 0, (3,))
        house.lift(())
        house.put(0, (3,))
        house.keep(())
        self.check_error(house, AnswerLost, (0,), "drop", 0, (3,))
        self.check_error(house, AlreadyThere, (), "bar", ())


class AskingTest(HouseCase):
    def test_losses_with_forty_and_forty_one_rows(self):
        house = filled((8, 8, 8, 8, 8), (0,))
        self.assertEqual(house.losses((3,)), (0, 7, 7, 7, 7))
        self.assertEqual(house.losses(answer=(3,)), single_losses(grid((8,) * 5, (0,))[0], house.store(), (3,)))
        self.check_error(house, NoAnswer, (0,), "losses", (8,))
        house.put(2, (8,))
        self.check_error(house, TooMany, (41,), "losses", (3,))
        self.check_error(house, TooMany, (41,), "losses", (8,))
        self.check_error(house, TooMany, (41,), "losses", None)
        house.drop(0, (3,))
        self.check_error(house, NoAnswer, (0,), "losses", (3,))

    def test_losses_of_what_is_no_answer(self):
        house = filled((2, 2), (0, 1))
        for method in ("losses", "sizes"):
            for value in SHAPES + ((0,), [0, 0], (0, False), (False, 0), (0, 2), (2, 0), ((0, 0),), House(PATH, ())):
                self.check_error(house, NoAnswer, (0,), method, value)
        house.keep((0, 0))
        self.assertEqual((house.losses((0, 0)), house.sizes((0, 0))), ((1, 1), ((0, None), (0, None))))

    def test_twelve_and_thirteen_rows_in_all(self):
        house = filled((4, 4, 4), (0, 1))
        self.assertEqual(house.least(((0, 0),)), 3)
        self.assertEqual(house.least(wished=((0, 0), (0, 1))), 2)
        self.assertEqual(house.sizes((0, 0)), ((0, None, None, None), (0, None, None, None), (3, 3, 3, 3)))
        self.assertEqual(house.sizes(answer=(0, 1)), ((0, None, None, None), (None, 0, None, None), (3, 3, 3, 3)))
        plan = house.plan(wished=((0, 0),))
        self.assertTrue(takes_out(grid((4,) * 3, (0, 1))[0], house.store(), plan, ((0, 0),)))
        self.assertEqual(loss_of(grid((4,) * 3, (0, 1))[0], house.store(), plan, ((0, 0),)), 3)
        house.put(2, (4,))
        for method in ("least", "paper_of", "plan", "sizes"):
            for value in (((0, 0),), (0, 0), None, (), [], ((9, 9),)):
                self.check_error(house, TooMany, (13,), method, value)
        house.drop(0, (0,))
        for method in ("least", "paper_of", "plan"):
            self.check_error(house, NoAnswer, (0,), method, ((0, 0),))
        self.check_error(house, NoAnswer, (0,), "sizes", (0, 0))

    def test_wished_answers_that_are_none(self):
        house = filled((3, 3), (0, 1))
        house += (("keep", (2, 2)), ("keep", (0, 1)), ("bar", (9, 9)))
        odd = (
            None, True, 0, "00", [0, 0], (0,), (0, 0, 0), (0, False), (False, 0), (0, 3), (0, -1), ("0", "0"), (9, 9),
            (0, 1), (2, 2), ((0, 0),), {}, DEEP, (0, None), House(PATH, ()),
        )
        for method in ("least", "paper_of", "plan"):
            for value in (
                None, True, 0, "", "abc", [], [(0, 0)], {}, {(0, 0): 1}, (), (0, 0, 0, 0),
                ((0, 0), (0, 2), (1, 0), (1, 1)),
                (0,) * 100000, House(PATH, ()), b"a",
            ):
                self.check_error(house, NoAnswer, (None,), method, value)
            for answer in odd:
                self.check_error(house, NoAnswer, (0,), method, (answer,))
                self.check_error(house, NoAnswer, (0,), method, (answer, (1, 1), None))
                self.check_error(house, NoAnswer, (1,), method, ((0, 0), answer))
                self.check_error(house, NoAnswer, (2,), method, ((0, 0), (1, 1), answer))
            self.check_error(house, NoAnswer, (1,), method, ((1, 1), (1, 1)))
            self.check_error(house, NoAnswer, (1,), method, ((1, 1), (1, 0)))
            self.check_error(house, NoAnswer, (2,), method, ((0, 0), (1, 1), (0, 2)))
            self.check_error(house, NoAnswer, (1,), method, ((1, 1), (1, 0), None))

    def test_least_and_plan_beside_kept_answers(self):
        house = filled((2, 2), (0, 1))
        self.assertEqual(house.least(((0, 0),)), 1)
        house.keep((1, 0))
        self.assertEqual((house.least(((0, 0),)), house.plan(((0, 0),))), (1, ((0, 0),)))
        house.keep((0, 1))
        self.assertEqual(house.kept(), ((1, 0), (0, 1)))
        self.assertIsNone(house.least(((0, 0),)))
        self.check_error(house, CannotTake, (), "plan", ((0, 0),))
        certificate = house.paper_of(((0, 0),))
        self.assertEqual(certificate[:2], (
            "shown", ("least", CROSS, house.store(), ((0, 0),), ((0, 1), (1, 0)), None),
        ))
        self.assertIsNone(first_fault(certificate))

    def test_paper_of(self):
        house = filled((3, 3), (0, 1))
        for wished in (((0, 0),), ((0, 0), (1, 1)), ((0, 0), (0, 1), (0, 2))):
            for kept in ((), ((2, 2),), ((2, 2), (1, 2))):
                for answer in kept:
                    house.keep(answer)
                certificate = house.paper_of(wished=wished)
                claim = ("least", CROSS, house.store(), wished, tuple(sorted(kept)), house.least(wished))
                self.assertEqual(certificate, decide(claim))
                self.assertEqual(certificate[0], "shown")
                self.assertIsNone(first_fault(certificate))
                for answer in kept:
                    house.release(answer)

    def test_what_asking_tells_is_plain_tuples(self):
        house = filled((2, 2), (0, 1))
        house += (("keep", (0, 0)), ("bar", (7, 7)), ("strike", ()))
        for value in (
            house.store(), house.store()[0], house.view(), house.kept(), house.barred(), house.deeds(),
            house.deeds()[0],
            house.losses((0, 0)), house.sizes((0, 0)), house.plan(((1, 1),)), house.paper_of(((1, 1),)),
        ):
            self.assertIs(type(value), tuple)
        self.assertEqual(len(house), len(house.deeds()))


class UndoTest(HouseCase):
    def test_each_kind_of_deed(self):
        house = House(PATH, KEY)
        seen = [told_of(house)]
        for deed in (
            ("put", 0, (0, 5)), ("put", 1, (5, 7)), ("put", 1, (5, 8)), ("keep", (0, 7)), ("bar", (1, 7)),
            ("keep", (0, 8)),
            ("release", (0, 7)), ("bar", (0, 1)), ("lift", (1, 7)), ("drop", 1, (5, 7)), ("strike", ()),
            ("put", 0, (1, 5)), ("strike", ((0, 1),)), ("bar", (1, 8)),
        ):
            house += (deed,)
            seen.append(told_of(house))
        while len(house) > 0:
            self.assertEqual(told_of(house), seen.pop())
            self.assertIsNone(house.undo())
        self.assertEqual([told_of(house)], seen)
        self.check_error(house, NothingDone, (), "undo")

    def test_many_deeds_one_by_one(self):
        house = House(PATH, ())
        for k in range(600):
            house.put(0, (k, 0))
            house.drop(0, (k, 0))
        self.assertEqual(len(house), 1200)
        for k in range(1200):
            house.undo()
        self.assertEqual((len(house), house.deeds(), house.store()), (0, (), start(PATH)[0]))
        self.check_error(house, NothingDone, (), "undo")

    def test_only_the_last_of_several_deeds(self):
        house = House(PATH, ())
        house += (("put", 0, (0, 0)), ("put", 1, (0, 0)), ("keep", (0, 0)))
        house.undo()
        self.assertEqual((house.kept(), len(house), house.view()), ((), 2, ((0, 0),)))
        house.undo()
        self.assertEqual((house.store(), len(house)), ((((0, 0),), ()), 1))

    def test_orders_come_back(self):
        house = filled((2, 2), (0, 1))
        house += (("keep", (1, 1)), ("keep", (0, 0)), ("release", (1, 1)), ("keep", (1, 1)))
        self.assertEqual(house.kept(), ((0, 0), (1, 1)))
        house.undo()
        house.undo()
        self.assertEqual(house.kept(), ((1, 1), (0, 0)))
        house += (("bar", (5, 5)), ("bar", (4, 4)), ("lift", (5, 5)))
        house.undo()
        self.assertEqual(house.barred(), ((5, 5), (4, 4)))


class TwinTest(HouseCase):
    def test_later_deeds_have_no_effect_on_the_other(self):
        house = filled((2, 2), (0, 1))
        house += (("keep", (1, 1)), ("bar", (7, 7)))
        other = house.twin()
        self.assertIsInstance(other, House)
        self.assertIsNot(other, house)
        before = told_of(house)
        self.assertEqual(told_of(other), before)
        other.drop(0, (0,))
        other += (("lift", (7, 7)), ("release", (1, 1)))
        self.assertEqual(told_of(house), before)
        after = told_of(other)
        house.undo()
        house.undo()
        house.put(0, (7,))
        self.assertEqual(told_of(other), after)
        for _ in range(9):
            other.undo()
        self.check_error(other, NothingDone, (), "undo")
        self.assertEqual(len(house), 5)

    def test_equal_houses(self):
        house, other = filled((2, 2), (0, 1)), filled((2, 2), (0, 1))
        self.assertIs(house == other, True)
        self.assertIs(house != other, False)
        self.assertIs(house == house, True)
        self.assertIs(house == house.twin(), True)
        other.strike(())
        self.assertIs(house == other, False)
        self.assertIs(house != other, True)
        house.strike(())
        self.assertIs(house == other, True)

    def test_the_same_store_after_other_deeds(self):
        house, other = House(CROSS, ()), House(CROSS, ())
        house += (("put", 0, (0,)), ("put", 0, (1,)))
        other += (("put", 0, (1,)), ("put", 0, (0,)))
        self.assertEqual(house.store(), other.store())
        self.assertIs(house == other, False)
        self.assertIs(House(PATH, ()) == House(PATH, KEY), False)
        self.assertIs(House(PATH, ()) == House((PATH[0], PATH[1][::-1]), ()), False)
        self.assertIs(House(PATH, KEY) == House(PATH, KEY), True)
        self.assertIs(House(PATH, KEY) == House(PATH, KEY * 2), False)

    def test_other_values(self):
        house = House(CROSS, ())
        for value in SHAPES + (CROSS, (CROSS, ()), house.deeds(), (), House, HouseCase):
            self.assertIs(house == value, False)
            self.assertIs(value == house, False)
            self.assertIs(house != value, True)


class SeveralDeedsTest(HouseCase):
    def test_all_are_done_in_place(self):
        house = same = House(PATH, KEY)
        deeds = (
            ("put", 0, (0, 5)), ("put", 1, (5, 7)), ("keep", (0, 7)), ("bar", (1, 1)), ("strike", ()), ("lift", (1, 1)),
            ("release", (0, 7)), ("drop", 1, (5, 7)),
        )
        house += deeds
        self.assertIs(house, same)
        self.assertEqual((house.deeds(), house.store()), (deeds, (((0, 5),), ())))
        other = House(PATH, KEY)
        other += house.deeds()
        self.assertEqual(told_of(other), told_of(house))
        house += ()
        self.assertEqual(len(house), 8)

    def test_sixty_and_sixty_one_deeds(self):
        house = House(PATH, ())
        house += (("strike", ()),) * 60
        self.assertEqual(len(house), 60)
        self.check_refused(house, (("strike", ()),) * 61, -1, None)
        self.check_refused(house, (("strike", None),) * 61, -1, None)
        self.check_refused(house, (("strike", ()),) * 59 + (("strike", None),), 59, "InvalidStrike")

    def test_wrong_forms(self):
        house = filled((2, 2), (0, 1))
        for value in SHAPES + (
            "put", [("strike", ())], {("strike", ()): 1}, house, house.store(), (0,), ("strike", ()),
        ):
            if value != ():
                self.check_refused(house, value, -1, None)
        for deed in (
            None, True, 0, "put", [], {}, (), ("put",), ("put", 0), ("put", 0, (5,), 0), ("drop", 0), ("strike",),
            ("keep",),
            ("strike", (), ()), ("keep", (0, 0), 0), ("release",), ("bar", 1, 2), ("lift",), ["strike", ()],
            ("Put", 0, (5,)),
            ("", ()), (None, ()), (0, ()), (True, ()), (("put",), 0, (5,)), (["put"], 0, (5,)), ({}, 0), ("undo",),
            ("twin", ()), ("put ", 0, (5,)), ("losses", (0, 0)), (b"put", 0, (5,)), ("store",), ("__init__", ()),
            ("_do", ()),
        ):
            self.check_refused(house, (deed,), -1, None)
            self.check_refused(house, (("strike", ()), deed), -1, None)
            # The form of all deeds is looked at before any of them is done.
            self.check_refused(house, (("strike", None), deed), -1, None)
            self.check_refused(house, (("put", 0, (5,)), ("put", 0, (6,)), deed, ("strike", ())), -1, None)

    def test_the_first_deed_that_fails(self):
        house = House(PATH, KEY)
        house += (("put", 0, (0, 5)), ("put", 1, (5, 7)), ("bar", (1, 1)), ("keep", (0, 7)))
        for deed, reason in (
            (("put", 2, (0, 0)), "InvalidRow"), (("put", None, None), "InvalidRow"),
            (("put", 0, (0, 5)), "AlreadyThere"),
            (("put", 0, (0, 6)), "RuleBroken"), (("drop", 0, (0, 6)), "NotThere"), (("drop", 0, (0, 5)), "AnswerLost"),
            (("drop", True, (5, 7)), "InvalidRow"), (("strike", ((0, 0),)), "AnswerLost"),
            (("strike", []), "InvalidStrike"),
            (("keep", (0, 7)), "AlreadyThere"), (("keep", (0, 8)), "NotThere"), (("keep", [0, 7]), "InvalidAnswer"),
            (("release", (0, 8)), "NotThere"), (("release", None), "InvalidAnswer"), (("bar", (0, 7)), "AlreadyThere"),
            (("bar", (1, 1)), "AlreadyThere"), (("bar", 1), "InvalidAnswer"), (("lift", (0, 7)), "NotThere"),
            (("lift", (1, True)), "InvalidAnswer"),
        ):
            self.check_refused(house, (deed,), 0, reason)
            self.check_refused(house, (deed, ("strike", None)), 0, reason)
            self.check_refused(house, (("strike", ()), ("put", 1, (9, 9)), deed), 2, reason)
        before = told_of(house)
        self.check_refused(house, (("put", 1, (9, 1)), ("put", 0, (2, 9)), ("put", 0, (1, 9))), 2, "AnswerBarred")
        self.check_refused(house, tuple([("put", 1, (8, k)) for k in range(12)]), 11, "TableFull")
        bars = tuple([("bar", (2, k)) for k in range(8)])
        self.check_refused(house, bars, 7, "TooMany")
        self.assertEqual(told_of(house), before)

    def test_each_in_the_state_that_those_before_it_leave(self):
        house = House(CROSS, ())
        self.check_refused(house, (("put", 0, (1,)), ("drop", 0, (1,)), ("drop", 0, (1,))), 2, "NotThere")
        house += (("put", 0, (1,)), ("drop", 0, (1,)), ("put", 0, (1,)), ("put", 1, (1,)), ("keep", (1, 1)))
        self.check_refused(house, (("release", (1, 1)), ("strike", ((0, 0),)), ("keep", (1, 1))), 2, "NotThere")
        house += (("release", (1, 1)), ("strike", ((0, 0),)), ("bar", (1, 1)))
        self.check_refused(house, (("put", 1, (2,)), ("put", 0, (1,))), 1, "AnswerBarred")
        self.assertEqual(len(house), 8)

    def test_twelve_rows_and_two_kept_answers_by_several_deeds(self):
        house = House(CROSS, ())
        self.check_refused(house, tuple([("put", 0, (k,)) for k in range(13)]), 12, "TableFull")
        house += tuple([("put", 0, (k,)) for k in range(12)]) + (("put", 1, (0,)),)
        self.check_refused(house, tuple([("keep", (k, 0)) for k in range(3)]), 2, "TooMany")
        house += (("keep", (0, 0)), ("keep", (1, 0)), ("release", (0, 0)), ("keep", (2, 0)))
        self.assertEqual(house.kept(), ((1, 0), (2, 0)))


if __name__ == "__main__":
    unittest.main()
