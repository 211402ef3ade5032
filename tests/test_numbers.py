"""state_at and state_number, and the spreads that they count with."""

import itertools
import random
import unittest

from tollround.counting import lot_many, state_at, state_number
from tollround.errors import Barred, NoNumber, OtherPeople
from tollround.spreads import spread_at, spread_number, spreads_many
from tests.samples import (
    Checks, MOST_COINS, PAIR, RICH, SMALL, TRIO, all_lots, all_purses, distances_from,
    full_states, mate, model_residues, some_states,
)


class SmallLotsTest(Checks, unittest.TestCase):
    def test_examples(self):
        self.assert_exact(state_at(RICH, 4), ((2, 1, 0), (0, 0, 3)))
        self.assert_exact(state_number(RICH, RICH), 0)
        self.assert_exact(state_number(RICH, ((2, 1, 0), (3, 0, 0))), 6)

    def test_all_states_of_small_lots_in_ascending_order(self):
        for many, coins in SMALL + [(2, 20), (3, 9), (4, 4)]:
            for lot in all_lots(many, coins)[:40]:
                for number, state in enumerate(lot):
                    self.assert_exact(state_at(lot[number // 2], number), state)
                    self.assert_exact(state_number(lot[number // 3], state), number)

    def test_all_states_of_some_lots_of_more_people(self):
        for state in [((0, 1, 2, 3, 4), (2, 0, 1, 0, 1)), ((4, 2, 0, 1, 3), (0, 6, 0, 0, 0)),
                      ((5, 0, 3, 1, 2, 4), (0, 1, 1, 1, 0, 1)), ((1, 0, 3, 2), (9, 0, 0, 1))]:
            lot = sorted(distances_from(state))
            for number in range(0, len(lot), 5):
                self.assert_exact(state_at(state, number), lot[number])
                self.assert_exact(state_number(state, lot[number]), number)
            self.assert_exact(state_at(state, len(lot) - 1), lot[-1])

    def test_the_same_from_each_state_of_a_lot(self):
        for lot in all_lots(3, 5):
            for one in lot:
                self.assert_exact([state_at(one, number) for number in range(len(lot))], lot)
                self.assert_exact([state_number(one, state) for state in lot],
                                  list(range(len(lot))))

    def test_a_lot_of_one_state(self):
        for many in range(2, 13):
            state = (tuple(reversed(range(many))), (0,) * many)
            self.assert_exact(state_at(state, 0), state)
            self.assert_exact(state_number(state, state), 0)
            self.assert_raises(NoNumber, {"number": 1}, state_at, state, 1)

    def test_lists_for_tuples_and_names(self):
        wanted = ((2, 1, 0), (0, 0, 3))
        self.assert_any_shape(state_at, [RICH, 4], ["state", "number"], wanted)
        self.assert_any_shape(state_number, [RICH, wanted], ["state", "other"], 4)


class ErrorsTest(Checks, unittest.TestCase):
    def test_numbers_that_no_state_has(self):
        self.assert_raises(NoNumber, {"number": 7}, state_at, RICH, 7)
        for state in some_states() + full_states() + [PAIR, TRIO, RICH]:
            many = lot_many(state)
            for number in (-1, -2, -many, -many - 1, many, many + 1, 2 * many, many * 10 ** 60,
                           -10 ** 60, -10 ** 5000, 10 ** 5000):
                self.assert_raises(NoNumber, {"number": number}, state_at, state, number)
        self.assert_raises(NoNumber, {"number": -1}, state_at, number=-1, state=[[0, 1], [1, 0]])

    def test_other_people(self):
        self.assert_raises(OtherPeople, {"many": 2}, state_number, RICH, PAIR)
        self.assert_raises(OtherPeople, {"many": 3}, state_number, PAIR, RICH)
        # The totals are equal here, and so are the residues of the first people.
        self.assert_raises(OtherPeople, {"many": 3}, state_number, PAIR, TRIO)
        self.assert_raises(OtherPeople, {"many": 2}, state_number, state=TRIO, other=[[0, 1], [1, 0]])

    def test_barred(self):
        self.assert_raises(Barred, {"reason": "total"}, state_number, RICH, TRIO)
        self.assert_raises(Barred, {"reason": "total"}, state_number, TRIO, RICH)
        self.assert_raises(Barred, {"reason": 0}, state_number, RICH, ((0, 1, 2), (1, 1, 1)))
        self.assert_raises(Barred, {"reason": 1}, state_number, RICH, ((0, 1, 2), (2, 1, 0)))
        for state in full_states():
            purses = list(state[1])
            purses[-2], purses[-1] = purses[-2] - 1, purses[-1] + 1
            self.assert_raises(Barred, {"reason": len(purses) - 2}, state_number, state,
                               (state[0], tuple(purses)))


class GreatLotsTest(Checks, unittest.TestCase):
    def check_state(self, state, found):
        """It is a STATE of the lot, made of tuples and integers."""
        self.assert_exact(sorted(found[0]), list(range(len(state[0]))))
        self.assertTrue(all(type(coins) is int and coins >= 0 for coins in found[1]))
        self.assertEqual((type(found), type(found[0]), type(found[1])), (tuple, tuple, tuple))
        self.assertEqual(model_residues(found), model_residues(state))
        self.assertEqual(sum(found[1]), sum(state[1]))

    def test_there_and_back_and_ascending(self):
        chance = random.Random(8)
        for state in full_states() + some_states(seed=9):
            many = lot_many(state)
            numbers = {0, many - 1, many // 2, min(1, many - 1)}
            numbers |= {chance.randrange(many) for _ in range(6)}
            last = None
            for number in sorted(numbers):
                found = state_at(state, number)
                self.check_state(state, found)
                self.assert_exact(state_number(state, found), number)
                self.assertTrue(last is None or last < found)
                last = found

    def test_neighbours_in_the_order(self):
        chance = random.Random(9)
        for state in full_states(seed=5):
            number = chance.randrange(lot_many(state) - 20)
            found = [state_at(state, number + more) for more in range(20)]
            self.assertEqual(found, sorted(set(found)))
            self.assertEqual([state_number(state, other) for other in found],
                             list(range(number, number + 20)))

    def test_numbers_of_states_far_away(self):
        for seed, state in enumerate(full_states(seed=6)):
            other, third = mate(state, seed), mate(state, seed + 100)
            first, second = state_number(state, other), state_number(other, third)
            self.assert_exact(state_at(third, first), other)
            self.assert_exact(state_at(state, second), third)
            self.assertEqual(first < second, other < third)

    def test_two_people_with_full_purses(self):
        # First the states on the seats (0, 1), then those on (1, 0).
        most = MOST_COINS
        state = ((0, 1), (0, most))
        self.assert_exact(lot_many(state), most + 1)
        for number in (0, 1, 5, 10 ** 30, most // 2):
            found = ((0, 1), (2 * number, most - 2 * number))
            self.assert_exact(state_at(state, number), found)
            self.assert_exact(state_number(state, found), number)
        for number in (0, 1, 5, 10 ** 30, most // 2 - 1):
            found = ((1, 0), (2 * number + 1, most - 2 * number - 1))
            self.assert_exact(state_at(state, most // 2 + 1 + number), found)
            self.assert_exact(state_number(state, found), most // 2 + 1 + number)

    def test_three_people_with_full_purses(self):
        for seed, state in enumerate(full_states(seed=8)[1:2] * 20):
            other = mate(state, seed)
            number = self.spread_before(other)
            for seats in itertools.permutations(range(3)):
                if seats < other[0]:
                    number += self.sittings_with(seats, other)
            self.assert_exact(state_number(state, other), number)
            self.assert_exact(state_at(state, number), other)

    def sittings_with(self, seats, state):
        """How many STATEs of the lot have these seats."""
        least = [(mark - seat) % 3 for mark, seat in zip(model_residues(state), seats)]
        rounds = (sum(state[1]) - sum(least)) // 3
        return (rounds + 1) * (rounds + 2) // 2

    def spread_before(self, state):
        """How many STATEs of the lot have the same seats and smaller purses."""
        first, second, third = [coins // 3 for coins in state[1]]
        rounds = first + second + third
        # With t rounds in the first purse, the second one has from 0 to rounds - t.
        return first * (rounds + 1) - first * (first - 1) // 2 + second

    def test_seats_before_purses(self):
        for state in full_states(seed=7):
            many = len(state[0])
            first = state_at(state, 0)
            last = state_at(state, lot_many(state) - 1)
            # With so many coins every seating is there.
            self.assert_exact(first[0], tuple(range(many)))
            self.assert_exact(last[0], tuple(reversed(range(many))))
            self.assertTrue(all(coins < many for coins in first[1][:-1]))
            self.assertTrue(all(coins < many for coins in last[1][1:]))

    def test_more_people_than_the_limit(self):
        seats = tuple((7 * k + 3) % 30 for k in range(30))
        for state in [(seats, (0,) * 30), (seats, (1,) * 30), (seats, tuple(range(30))),
                      (seats, (10 ** 45,) * 30)]:
            many = lot_many(state)
            for number in sorted({0, many // 3, many - 1}):
                found = state_at(state, number)
                self.check_state(state, found)
                self.assert_exact(state_number(state, found), number)


class SpreadsTest(Checks, unittest.TestCase):
    def test_all_spreads_of_a_few_rounds(self):
        for people, rounds in itertools.product(range(1, 5), range(6)):
            found = [list(spread) for spread in all_purses(people, rounds)]
            self.assert_exact(spreads_many(rounds, people), len(found))
            for number, spread in enumerate(found):
                self.assert_exact(spread_at(rounds, people, number), spread)
                self.assert_exact(spread_number(spread), number)

    def test_rounds_below_0(self):
        self.assert_exact([spreads_many(-1, 3), spreads_many(-5, 1)], [0, 0])

    def test_without_purses(self):
        self.assert_exact([spreads_many(rounds, 0) for rounds in range(-2, 4)], [0, 0, 1, 0, 0, 0])
        self.assert_exact([spread_at(0, 0, 0), spread_number([])], [[], 0])


if __name__ == "__main__":
    unittest.main()
