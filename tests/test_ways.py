"""nearer, plan and is_way."""

import copy
import itertools
import unittest

from tollround.errors import OtherPeople, TooMany
from tollround.leading import distance, is_way, nearer, plan
from tests.samples import (
    Checks, PAIR, RICH, SMALL, TRIO, all_lots, distances_from, full_states, mate, model_exchange,
    model_run, people_at, possible_row, shapes, some_states,
)

FAR = ((2, 1, 0), (0, 0, 3))
NAMES = ["one", "other"]


class NearerTest(Checks, unittest.TestCase):
    def test_examples(self):
        self.assert_exact(nearer(RICH, ((2, 1, 0), (3, 0, 0))), 2)

    def test_a_possible_exchange_for_all_pairs_of_small_lots(self):
        for many, coins in SMALL + [(2, 20), (3, 9), (4, 5)]:
            for lot in all_lots(many, coins)[:16]:
                for other in lot:
                    away = distances_from(other)
                    for one in lot:
                        self.check_nearer(one, other, away)

    def check_nearer(self, one, other, away):
        seat = nearer(one, other)
        if one == other:
            self.assertIsNone(seat)
            return
        self.assertIs(type(seat), int)
        self.assertIn(seat, range(len(one[0])))
        self.assertGreater(one[1][people_at(one)[seat]], 0)
        self.assertEqual(away[model_exchange(one, seat)], away[one] - 1)
        self.assertEqual(nearer(one, other), seat)

    def test_a_state_and_itself(self):
        for state in some_states() + full_states():
            self.assert_exact(nearer(state, state), None)

    def test_far_away(self):
        for seed, one in enumerate(full_states(most=10 ** 42)):
            other = mate(one, seed)
            many = distance(one, other)
            for _ in range(50):
                seat = nearer(one, other)
                self.assertGreater(one[1][people_at(one)[seat]], 0)
                one = model_exchange(one, seat)
                many -= 1
                self.assertEqual(distance(one, other), many)
            self.assertGreater(many, 10 ** 40)

    def test_with_empty_purses_on_the_way(self):
        # All coins lie in one purse, so that only one exchange is possible.
        for many in range(2, 13):
            for payer in range(many):
                purses = [0] * many
                purses[payer] = 10 ** 40 * many
                one = (tuple(range(many)), tuple(purses))
                other = mate(one, payer)
                if one != other:
                    self.assert_exact(nearer(one, other), payer)

    def test_lists_for_tuples_and_names(self):
        self.assert_any_shape(nearer, [RICH, FAR], NAMES, nearer(RICH, FAR))
        self.assert_any_shape(nearer, [FAR, RICH], NAMES, nearer(FAR, RICH))
        self.assert_any_shape(nearer, [RICH, RICH], NAMES, None)


class PlanTest(Checks, unittest.TestCase):
    def test_examples(self):
        self.assert_exact(plan(RICH, ((2, 1, 0), (3, 0, 0))), [2])
        self.assert_exact(len(plan(RICH, FAR)), 3)

    def test_a_shortest_row_for_all_pairs_of_small_lots(self):
        for many, coins in SMALL + [(2, 12), (3, 7), (4, 4)]:
            for lot in all_lots(many, coins)[:12]:
                for one in lot:
                    for other, wanted in distances_from(one).items():
                        self.check_plan(one, other, wanted)

    def check_plan(self, one, other, wanted):
        row = plan(one, other)
        self.assertIs(type(row), list)
        self.assertEqual(len(row), wanted)
        present = one
        for seat in row:
            self.assertIs(type(seat), int)
            self.assertIn(seat, range(len(one[0])))
            self.assertGreater(present[1][people_at(present)[seat]], 0)
            present = model_exchange(present, seat)
        self.assertEqual(present, other)
        self.assertEqual(plan(one, other), row)

    def test_a_state_and_itself(self):
        for state in some_states() + full_states():
            self.assert_exact(plan(state, state), [])

    def test_back_from_rows(self):
        for seed, one in enumerate(some_states(seed=6)):
            row = possible_row(one, 150, seed) if sum(one[1]) else []
            other = model_run(one, row)
            self.check_plan(one, other, distance(one, other))
            self.check_plan(other, one, distance(one, other))

    def test_1000_exchanges_and_1001(self):
        for most in (1001, 10 ** 42):
            one = ((0, 1), (most, 0))
            self.check_plan(one, ((0, 1), (most - 1000, 1000)), 1000)
            self.check_plan(((0, 1), (most - 1000, 1000)), one, 1000)
            other = ((1, 0), (most - 1001, 1001))
            self.assert_raises(TooMany, {"many": 1001}, plan, one, other)
            self.assert_raises(TooMany, {"many": 1001}, plan, other, one)
            self.assert_raises(TooMany, {"many": 1001}, plan, one=[[0, 1], [most, 0]], other=other)

    def test_1000_exchanges_and_1001_of_more_people(self):
        for many in (3, 5, 12):
            one = (tuple(range(many)), (2000,) + (7,) * (many - 1))
            other = one
            while distance(one, other) < 1001:
                # The first person goes on and on, past all others.
                last, other = other, model_exchange(other, other[0][0])
            self.check_plan(one, last, 1000)
            self.assert_raises(TooMany, {"many": 1001}, plan, one, other)

    def test_too_many_far_away(self):
        for seed, one in enumerate(full_states()):
            other = mate(one, seed)
            self.assert_raises(TooMany, {"many": distance(one, other)}, plan, one, other)

    def test_lists_for_tuples_and_names(self):
        self.assert_any_shape(plan, [RICH, FAR], NAMES, plan(RICH, FAR))
        self.assert_any_shape(plan, [FAR, RICH], NAMES, plan(FAR, RICH))
        self.assert_any_shape(plan, [RICH, RICH], NAMES, [])

    def test_the_returned_list_belongs_to_the_caller(self):
        wanted = plan(RICH, FAR)
        first = plan(RICH, FAR)
        first.clear()
        self.assert_exact(plan(RICH, FAR), wanted)
        plan(RICH, RICH).append(0)
        self.assert_exact(plan(RICH, RICH), [])


class IsWayTest(Checks, unittest.TestCase):
    def test_examples(self):
        self.assert_exact(is_way(RICH, FAR, [0, 1, 0]), True)
        self.assert_exact(is_way(RICH, FAR, [1]), False)

    def test_all_short_rows_of_small_states(self):
        for one, length in [(PAIR, 5), (TRIO, 4), (RICH, 4), (((1, 0), (0, 0)), 2),
                            (((2, 0, 1), (0, 4, 1)), 4)]:
            seats = range(-1, len(one[0]) + 1)
            for row in itertools.chain(*[itertools.product(seats, repeat=size)
                                         for size in range(length + 1)]):
                end = self.end_of(one, row)
                for other in distances_from(one):
                    self.assert_exact(is_way(one, other, list(row)), other == end)

    def end_of(self, one, row):
        """The STATE after the row, None if an exchange is not possible."""
        for seat in row:
            if seat not in range(len(one[0])) or not one[1][people_at(one)[seat]]:
                return None
            one = model_exchange(one, seat)
        return one

    def test_rows_of_any_length_with_detours(self):
        for seed, one in enumerate(some_states(seed=7)):
            if not sum(one[1]):
                continue
            row = possible_row(one, 300, seed)
            other = model_run(one, row)
            self.assert_exact(is_way(one, other, row), True)
            self.assert_exact(is_way(one, other, row + row[::-1] + row), True)
            self.assert_exact(is_way(one, one, row + row[::-1]), True)
            self.assert_exact(is_way(other, one, row[::-1]), True)
            # One exchange less leads to another STATE.
            self.assert_exact(is_way(one, other, row[:-1]), False)
            self.assert_exact(is_way(one, one, (row + row[::-1])[:-1]), False)
        self.assert_exact(is_way(PAIR, PAIR, [0] * 10000), True)
        self.assert_exact(is_way(PAIR, PAIR, [0] * 10001), False)

    def test_the_empty_row(self):
        for state in some_states():
            self.assert_exact(is_way(state, state, []), True)
        self.assert_exact(is_way(RICH, FAR, []), False)

    def test_states_to_which_one_does_not_lead(self):
        self.assert_exact(is_way(RICH, TRIO, []), False)
        self.assert_exact(is_way(RICH, TRIO, [0]), False)
        self.assert_exact(is_way(RICH, ((0, 1, 2), (1, 1, 1)), [0, 1, 0]), False)
        self.assert_exact(is_way(RICH, ((1, 0, 2), (1, 1, 2)), [0]), False)

    def test_seats_that_are_not_there(self):
        for seat in (-1, -2, -3, -4, 3, 4, 10 ** 60, -10 ** 60, 10 ** 5000, -10 ** 5000):
            for row in ([seat], [seat, 0, 1, 0], [0, 1, 0, seat], [0, seat, 1, 0]):
                self.assert_exact(is_way(RICH, FAR, row), False)
                self.assert_exact(is_way(RICH, RICH, row), False)
        # Counted from the end, seat -2 of two people would be seat 0.
        self.assert_exact(is_way(PAIR, ((1, 0), (0, 1)), [-2]), False)

    def test_an_exchange_that_fails_counts_wherever_it_stands(self):
        self.assert_exact(is_way(PAIR, PAIR, [1]), False)
        self.assert_exact(is_way(PAIR, PAIR, [0, 1, 0]), False)
        self.assert_exact(is_way(PAIR, PAIR, [0, 0, 1]), False)
        self.assert_exact(is_way(((0, 1), (0, 0)), ((0, 1), (0, 0)), [0, 0]), False)

    def wrong_values(self):
        """What is no list of integers, though it looks like a way from RICH to FAR."""
        deep = 0
        for _ in range(8):
            deep = [deep]
        return [
            None, True, False, 0, 1, -1, 10 ** 5000, "", "0 1 0", "010", (), (0, 1, 0), ((0, 1, 0),),
            [False, 1, 0], [0, True, 0], [0, 1, False], [False, True, False], [True], [False],
            ["0", "1", "0"], [0, "1", 0], [0, 1, 0, ""], "[0, 1, 0]", ["0 1 0"], [None], [0, 1, 0, None],
            [None, 0, 1, 0], [[0, 1, 0]], [[0], [1], [0]], [0, [1], 0], [0, 1, [0]], [0, (1,), 0],
            [0, 1, 0, []], [0, 1, 0, ()], [[]], [()], ([],), deep, (deep,), [0, 1, 0, deep],
            [RICH, FAR], RICH, FAR, [0, 1, 0, True], [0, 1, 0, [0] * 1000],
        ]

    def test_wrong_values(self):
        for value in self.wrong_values():
            self.assert_exact(is_way(RICH, FAR, value), False)
            self.assert_exact(is_way(RICH, RICH, value), False)
            self.assert_exact(is_way(RICH, TRIO, value), False)
        # An exchange that fails before does not matter.
        self.assert_exact(is_way(RICH, RICH, [1, None]), False)
        self.assert_exact(is_way(RICH, RICH, [9, "x", [[]]]), False)
        self.assert_exact(is_way(PAIR, PAIR, [0, False]), False)
        self.assert_exact(is_way(PAIR, PAIR, [False, 0]), False)
        self.assert_exact(is_way(PAIR, PAIR, (0, 0)), False)
        self.assert_exact(is_way(PAIR, PAIR, ()), False)

    def test_other_people_before_the_value(self):
        for value in self.wrong_values() + [[], [0], [9]]:
            self.assert_raises(OtherPeople, {"many": 2}, is_way, RICH, PAIR, value)
            self.assert_raises(OtherPeople, {"many": 3}, is_way, PAIR, TRIO, value)

    def test_the_value_stays_as_it_is(self):
        for value in self.wrong_values() + [[0, 1, 0], [], [1, 2], [0, 9]]:
            before = copy.deepcopy(value)
            is_way(RICH, FAR, value)
            self.assert_exact(value, before)

    def test_lists_for_tuples_and_names(self):
        # But not in the value: there a tuple is no ROW.
        for one in shapes(RICH):
            for other in shapes(FAR):
                self.assert_exact(is_way(one, other, [0, 1, 0]), True)
                self.assert_exact(is_way(one=one, other=other, value=[0, 1, 0]), True)
                self.assert_exact(is_way(one, other, (0, 1, 0)), False)
                self.assert_exact(is_way(value=[0, 1], other=other, one=one), False)
        one, other = [[0, 1, 2], [2, 0, 1]], [[2, 1, 0], [0, 0, 3]]
        is_way(one, other, [0, 1, 0])
        self.assert_exact([one, other], [[[0, 1, 2], [2, 0, 1]], [[2, 1, 0], [0, 0, 3]]])


if __name__ == "__main__":
    unittest.main()
