"""Tests of viewstrike.house on drawn histories, beside the model in tests/housemodel.py and the other functions."""

import random
import unittest

from tests.definitions import all_rows, groups_by_definition, keeps_by_definition, least_by_definition, outcomes_of
from tests.housemodel import is_error, outcome, outcome_of_deeds, start, view, wished_index
from tests.samples import KEY, PATH, grid, sample_pairs
from viewstrike import errors
from viewstrike.checker import first_fault
from viewstrike.claims import decide
from viewstrike.deciding import sizes_of
from viewstrike.house import House
from viewstrike.least import least_loss
from viewstrike.singles import single_losses
from viewstrike.stores import require_store, view_of
from viewstrike.strikes import loss_of, require_strike, struck_by

ODD = (None, True, 0, "", [], (), (0,), (None,), ("0",), (True,), ((0, 0),), {}, -1, 1000, (0, -1), [(0, 0)])


def some_row(some, query, t):
    return tuple([some.randrange(2 if some.randrange(9) else 1001) for _ in query[1][t]])


def some_answer(some, query, state):
    if some.randrange(3) == 0 and view(query, state[0]):
        return some.choice(view(query, state[0]))
    if some.randrange(3) == 0 and state[1] + state[2]:
        return some.choice(state[1] + state[2])
    return tuple([some.randrange(2 if some.randrange(9) else 1001) for _ in query[0]])


def some_deed(some, query, state):
    """Return a deed, seldom with a part that is none."""
    word = some.choice(("put",) * 9 + ("drop", "drop", "strike", "keep", "keep", "release", "bar", "bar", "lift"))
    if word in ("put", "drop"):
        t = some.randrange(len(query[1]))
        row = some_row(some, query, t)
        if word == "drop" and state[0][t] and some.randrange(4):
            row = some.choice(state[0][t])
        if some.randrange(25) == 0:
            return (word, some.choice(ODD), row)
        return (word, t, row if some.randrange(25) else some.choice(ODD))
    if some.randrange(25) == 0:
        return (word, some.choice(ODD))
    if word == "strike":
        rows = all_rows(state[0])
        chosen = some.sample(rows, min(len(rows), some.choice((0, 1, 1, 1, 2))))
        return (word, tuple(sorted(chosen) if some.randrange(9) else chosen + chosen))
    if word == "keep" and view(query, state[0]) and some.randrange(3):
        return (word, some.choice(view(query, state[0])))
    return (word, some_answer(some, query, state))


class HistoryCase(unittest.TestCase):
    def do(self, house, deed):
        """Do the deed by its method; return None, or the name and the arguments of the error."""
        try:
            self.assertIsNone(getattr(house, deed[0])(*deed[1:]))
        except (ValueError, LookupError, RuntimeError, OverflowError) as error:
            self.assertIs(type(error), getattr(errors, type(error).__name__))
            return (type(error).__name__,) + tuple(vars(error).values())
        return None

    def check_state(self, house, state, deeds):
        store, kept, barred = state
        self.assertEqual(house.store(), store)
        self.assertEqual((house.kept(), house.barred()), (kept, barred))
        self.assertEqual((house.deeds(), len(house)), (tuple(deeds), len(deeds)))

    def check_answers(self, some, house, query, rules, state):
        """Compare with the other functions for the store, and check what a house grants."""
        store, kept, barred = state
        self.assertIs(require_store(query, rules, store), store)
        self.assertTrue(keeps_by_definition(query, rules, store))
        shown = view(query, store)
        self.assertEqual(house.view(), shown)
        self.assertEqual(house.view(), view_of(query, store))
        self.assertTrue(set(kept) <= set(shown) and not set(barred) & set(shown))
        if shown and sum(map(len, store)) <= 12:
            answer = some.choice(shown)
            self.assertEqual(house.losses(answer), single_losses(query, store, answer))
            self.assertEqual(house.sizes(answer), sizes_of(query, store, answer))
            many = some.randint(1, 3)
            wished = tuple(sorted(some.sample(shown, min(many, len(shown)))))
            if some.randrange(9) == 0:
                wished = some.choice(
                    (wished[::-1], wished + wished, wished[:0], wished + ((5,),), (None,) + wished, wished + kept)
                )
            self.check_wished(house, query, state, wished)

    def check_wished(self, house, query, state, wished):
        store, kept = state[0], tuple(sorted(state[1]))
        index = wished_index(query, state, wished)
        if index != "right":
            for method in (house.least, house.plan, house.paper_of):
                with self.assertRaises(errors.NoAnswer) as caught:
                    method(wished)
                self.assertEqual(caught.exception.index, index)
            return
        least = house.least(wished)
        self.assertEqual(least, least_loss(query, store, wished, kept=kept))
        certificate = house.paper_of(wished)
        self.assertEqual(certificate, decide(("least", query, store, wished, kept, least)))
        self.assertEqual((certificate[0], first_fault(certificate)), ("shown", None))
        if sum(map(len, store)) <= 7:
            self.assertEqual(least, least_by_definition(outcomes_of(query, store), wished, kept))
        if least is None:
            self.assertRaises(errors.CannotTake, house.plan, wished)
        else:
            plan = require_strike(store, house.plan(wished))
            struck = struck_by(query, store, plan)
            self.assertTrue(set(wished) <= set(struck) and not set(kept) & set(struck))
            self.assertEqual(loss_of(query, store, plan, wished), least)


class HistoriesTest(HistoryCase):
    def check_history(self, some, query, rules, many):
        house, states, deeds, seen = House(query, rules), [start(query)], [], set()
        for _ in range(many):
            way = some.randrange(12)
            if way == 0:
                self.undo_one(house, states, deeds)
            elif way == 1:
                seen.add(self.do_several(some, house, query, rules, states, deeds))
            else:
                deed = some_deed(some, query, states[-1])
                told = outcome(query, rules, states[-1], deed)
                error = self.do(house, deed)
                if is_error(told):
                    self.assertEqual((error, str(error)), (told, str(told)), deed)
                    seen.add(told[0])
                else:
                    self.assertIsNone(error)
                    states.append(told)
                    deeds.append(deed)
            self.check_state(house, states[-1], deeds)
            if some.randrange(5) == 0:
                self.check_answers(some, house, query, rules, states[-1])
        self.check_built_anew(house, query, rules, deeds)
        self.check_undone(house, states, deeds)
        return seen

    def undo_one(self, house, states, deeds):
        if len(deeds) == 0:
            self.assertRaises(errors.NothingDone, house.undo)
        else:
            self.assertIsNone(house.undo())
            states.pop()
            deeds.pop()

    def do_several(self, some, house, query, rules, states, deeds):
        """Do several deeds at once; return the name of the error of the first that fails, or None."""
        state, group = states[-1], []
        for _ in range(some.choice((1, 2, 3, 5, 5, 9))):
            deed = some_deed(some, query, state)
            told = outcome(query, rules, state, deed)
            if not is_error(told) or some.randrange(12) == 0:
                group.append(deed)
                state = state if is_error(told) else told
        group = tuple(group)
        if some.randrange(15) == 0:
            group = some.choice((list(group), group + ("put",), group * 20))
        told = outcome_of_deeds(query, rules, states[-1], group)
        try:
            same = house
            house += group
            self.assertIs(same, house)
            self.assertIs(type(told), list)
            states.extend(told)
            deeds.extend(group)
        except errors.Refused as error:
            self.assertEqual(("Refused", error.index, error.reason), told)
            return error.reason
        return None

    def check_built_anew(self, house, query, rules, deeds):
        other = House(query, rules)
        for k in range(0, len(deeds), 60):
            other += tuple(deeds[k : k + 60])
        self.assertIs(house == other, True)
        twin = house.twin()
        self.assertIs(house == twin, True)
        self.assertEqual((other.store(), other.view(), other.kept(), other.barred()), (
            house.store(), house.view(), house.kept(), house.barred(),
        ))
        twin.strike(())
        self.assertIs(house == twin, False)
        self.assertEqual(len(house), len(deeds))

    def check_undone(self, house, states, deeds):
        twin = house.twin()
        for k in range(len(deeds), 0, -1):
            twin.undo()
            self.check_state(twin, states[k - 1], deeds[: k - 1])
        self.assertRaises(errors.NothingDone, twin.undo)
        self.check_state(house, states[-1], deeds)

    def test_drawn_histories(self):
        some = random.Random(40)
        seen = set()
        pairs = [(query, rules) for query, rules in sample_pairs(60) if len(query[1]) <= 4]
        for query, rules in pairs + [(PATH, KEY), (PATH, ()), (((), PATH[1]), KEY), (((0,), ((0,),)), ())] * 4:
            seen |= self.check_history(some, query, rules, 100)
        self.assertEqual(seen - {None}, {
            "InvalidRow", "AlreadyThere", "RuleBroken", "AnswerBarred", "NotThere", "AnswerLost", "InvalidStrike",
            "InvalidAnswer", "TooMany", "TableFull",
        })

    def test_longer_histories_of_full_tables(self):
        some = random.Random(41)
        seen = set()
        for query in (grid((1,), (0,))[0], (((0,), ((0, 1, 2, 3),)))):
            seen |= self.check_history(some, query, (), 900)
        house = House(((0,), ((0, 1, 2, 3),)), ())
        house += tuple([("put", 0, (0, 0, a, b)) for a in range(3) for b in range(4)])
        self.assertEqual(self.do(house, ("put", 0, (9, 9, 9, 9))), ("TableFull", 0))

    def test_five_full_tables(self):
        query, store = grid((12, 12, 12, 12, 12), (0, 4))
        house = House(query, ())
        house += tuple([("put", t, row) for t, table in enumerate(store) for row in table])
        house += (("keep", (3, 4)), ("keep", (0, 11))) + tuple([("bar", (k, 500)) for k in range(8)])
        self.assertEqual(len(house.view()), 144)
        for _ in range(40):
            house.strike(((1, 0), (2, 5)))
            house += (("put", 1, (0,)), ("put", 2, (5,)))
        self.assertEqual(self.do(house, ("strike", tuple([(1, k) for k in range(12)]))), ("AnswerLost", 0))
        self.assertEqual(self.do(house, ("drop", 4, (11,))), ("AnswerLost", 1))
        house.strike(((4, 0),))
        self.assertEqual(self.do(house, ("put", 4, (500,))), ("AnswerBarred", 0))
        self.assertEqual(house.store()[4], store[4][1:])

    def test_many_deeds(self):
        house = House(PATH, KEY)
        house += tuple([("put", 0, (k, k)) for k in range(6)] + [("put", 1, (k, 0)) for k in range(6)])
        house += (("keep", (0, 0)), ("keep", (1, 0)), ("bar", (9, 9)))
        for k in range(1000):
            house += (("put", 0, (7, 7)), ("drop", 0, (7, 7)), ("put", 1, (7, 7)), ("strike", ((1, 6),)))
        self.assertEqual((len(house), house.view()), (4015, tuple([(k, 0) for k in range(6)])))
        self.assertIs(house == house.twin(), True)
        for _ in range(4000):
            house.undo()
        self.assertEqual(len(house), 15)

    def test_arguments_are_not_modified(self):
        deeds = [["put", 0, [0, 0]]]
        house = House(PATH, ())
        self.assertRaises(errors.Refused, house.__iadd__, deeds)
        self.assertEqual(deeds, [["put", 0, [0, 0]]])
        self.assertEqual(groups_by_definition(PATH, house.store()), {})


if __name__ == "__main__":
    unittest.main()
