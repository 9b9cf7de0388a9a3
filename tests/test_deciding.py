"""Tests of viewstrike.deciding: is_lot, least_lot, sizes_of."""

import copy
import random
import unittest

from tests.definitions import all_rows, all_strikes, groups_by_definition
from tests.pricereference import is_lot_by_definition, least_size, with_row
from tests.pricesamples import LOOSE_STORE, PAIR, priced
from tests.samples import ODD_VALUES, RICH, grid
from viewstrike.deciding import is_lot, least_lot, sizes_of
from viewstrike.house import House
from viewstrike.strikes import require_strike

SAMPLES = [(query, store, answer) for query, store, _, answer in priced(110, 7, 27)]
FULL = [(query, store, answer) for query, store, _, answer in priced(2, 12, 28)]


class IsLotTest(unittest.TestCase):
    def test_example_of_the_interface(self):
        told = is_lot(PAIR, LOOSE_STORE, (4,), (0, 0), ((1, 1),)), is_lot(PAIR, LOOSE_STORE, (4,), (0, 0), ())
        self.assertEqual((told, sizes_of(PAIR, LOOSE_STORE, (4,))), ((True, False), ((1, 1, None), (1, 1))))

    def test_values_of_any_kind(self):
        deep = ()
        for _ in range(97):
            deep = (deep,)
        wrong = ODD_VALUES + (
            7, (1, 1), [(1, 1)], ([1, 1],), ((1, 1, 0),), ((1,),), ((1, True),), ((True, 1),), ((1, 2),), ((2, 0),),
            ((-1, 1),), ((1, -1),), ((1, 1), (1, 1)), ((1, 1), (0, 2)), ((1, None),), (("1", "1"),), {(1, 1): 1}, deep,
            ((1, 1), None), (None, (1, 1)), (0,) * 1000000, House(PAIR, ()), b"\x01", ((1, 10**40),),
        )
        for value in wrong:
            before = copy.deepcopy(value) if not isinstance(value, House) else value
            self.assertIs(is_lot(PAIR, LOOSE_STORE, (4,), (0, 0), value), False)
            self.assertEqual(value, before)

    def test_the_row_itself_and_rows_beside_it(self):
        self.assertIs(is_lot(PAIR, LOOSE_STORE, (4,), (0, 0), ((0, 1),)), True)
        self.assertIs(is_lot(PAIR, LOOSE_STORE, (4,), (0, 0), ((0, 1), (0, 2), (1, 1))), True)
        self.assertIs(is_lot(PAIR, LOOSE_STORE, (4,), (0, 0), ((0, 0), (1, 1))), False)
        self.assertIs(is_lot(PAIR, LOOSE_STORE, (4,), (0, 0), ((0, 0),)), False)
        self.assertIs(is_lot(PAIR, LOOSE_STORE, (4,), (0, 0), ((0, 1), (1, 0))), False)
        self.assertIs(is_lot(PAIR, LOOSE_STORE, (4,), (0, 2), ((0, 0), (0, 1))), False)
        self.assertIs(is_lot(PAIR, LOOSE_STORE, (4,), (0, 2), ()), False)
        self.assertIs(is_lot(*grid((1, 2), ()), (), (0, 0), ()), True)
        self.assertIs(is_lot(value=((1, 1),), place=(0, 0), answer=(4,), store=LOOSE_STORE, query=PAIR), True)

    def test_by_the_definition(self):
        told = []
        for query, store, answer in SAMPLES[:60]:
            for place in all_rows(store):
                for strike in all_strikes(store):
                    told.append(is_lot(query, store, answer, place, strike))
                    self.assertIs(told[-1], is_lot_by_definition(query, store, answer, place, strike))
        self.assertTrue(min(told.count(True), told.count(False)) >= 100)

    def test_changed_strikes(self):
        some = random.Random(29)
        for query, store, answer in SAMPLES:
            place = some.choice(all_rows(store))
            lot = least_lot(query, store, answer, place) or ()
            for value in (lot[::-1], lot + lot, lot[1:], lot + (place,), list(lot), (place,) + lot, lot[:-1], (lot,)):
                told = is_lot_by_definition(query, store, answer, place, value)
                self.assertIs(is_lot(query, store, answer, place, value), told)


class LeastLotTest(unittest.TestCase):
    def check_sample(self, query, store, answer):
        sizes = sizes_of(query, store, answer)
        self.assertIs(type(sizes), tuple)
        self.assertEqual([len(table) for table in sizes], [len(table) for table in store])
        for t, number in all_rows(store):
            size = least_size(query, store, answer, (t, number))
            told = sizes[t][number]
            self.assertEqual((type(told), told), (type(size), size))
            self.assertEqual(size is None, with_row(query, store, answer, (t, number)) == [])
            lot = least_lot(query, store, answer, (t, number))
            if size is None:
                self.assertIsNone(lot)
            else:
                self.assertIs(require_strike(store, lot), lot)
                self.assertEqual(len(lot), size)
                self.assertTrue(is_lot_by_definition(query, store, answer, (t, number), lot))

    def test_by_all_strikes(self):
        for sample in SAMPLES:
            self.check_sample(*sample)
        told = [size for sample in SAMPLES for table in sizes_of(*sample) for size in table]
        self.assertTrue(all(told.count(size) >= 5 for size in (None, 0, 1, 2)), told)

    def test_stores_with_up_to_twelve_rows(self):
        for sample in FULL:
            self.check_sample(*sample)

    def test_rich_stores(self):
        for query, store in RICH:
            if sum(map(len, store)) <= 9:
                self.check_sample(query, store, max(groups_by_definition(query, store)))

    def test_twelve_rows_by_counting(self):
        # Where the tables have nothing in common, a row decides behind the other rows of its table.
        for sizes in ((3, 3, 2, 2, 2), (3, 3, 3, 3), (4, 4, 4), (6, 6), (12,), (1, 11), (8, 1, 1, 1, 1)):
            query, store = grid(sizes, ())
            told = sizes_of(query, store, ())
            self.assertEqual(told, tuple([(many - 1,) * many for many in sizes]))
            self.assertEqual(len(least_lot(query, store, (), (0, 0))), sizes[0] - 1)
        query, store = grid((4, 4, 4), (0,))
        self.assertEqual(sizes_of(query, store, (2,)), ((None, None, 0, None), (3,) * 4, (3,) * 4))

    def test_all_arguments_by_name(self):
        for query, store, answer in SAMPLES[:20]:
            told = {"answer": answer, "store": store, "query": query}
            self.assertEqual(sizes_of(**told), sizes_of(query, store, answer))
            for place in all_rows(store):
                self.assertEqual(least_lot(place=place, **told), least_lot(query, store, answer, place))


if __name__ == "__main__":
    unittest.main()
