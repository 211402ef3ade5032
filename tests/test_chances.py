"""seat_chances, mean_purse and range_of."""

import itertools
import math
import unittest
from fractions import Fraction

from tollround.chances import mean_purse, range_of, seat_chances
from tollround.errors import NoPerson
from tests.samples import (
    Checks, MOST_COINS, RICH, SMALL, TRIO, all_lots, full_states, mate, model_residues, some_states,
)


def as_pair(number):
    """The FRACTION of a whole number or of a Fraction, which is in lowest terms."""
    return (Fraction(number).numerator, Fraction(number).denominator)


def sum_of(pairs):
    """The sum of FRACTIONs."""
    return sum((Fraction(*pair) for pair in pairs), Fraction(0))


def seatings(state):
    """All seatings of the lot, one by one: seats, least purses, spare rounds, number of STATEs."""
    many, found = len(state[0]), []
    for seats in itertools.permutations(range(many)):
        least = [(mark - seat) % many for mark, seat in zip(model_residues(state), seats)]
        spare = (sum(state[1]) - sum(least)) // many
        if spare >= 0:
            found.append((seats, least, spare, math.comb(spare + many - 1, many - 1)))
    return found


class SmallLotsTest(Checks, unittest.TestCase):
    def test_examples(self):
        self.assert_exact(seat_chances(RICH, 0), [(1, 7), (2, 7), (4, 7)])
        self.assert_exact(seat_chances(TRIO, 2), [(0, 1), (0, 1), (1, 1)])
        self.assert_exact([mean_purse(RICH, 0), mean_purse(TRIO, 0)], [(1, 1), (1, 2)])
        self.assert_exact([range_of(RICH, 0), range_of(TRIO, 2)], [(0, 3), (0, 0)])

    def test_as_a_search_through_all_exchanges(self):
        for many, coins in SMALL + [(2, 20), (3, 9), (4, 4)]:
            for lot in all_lots(many, coins)[:60]:
                for person in range(many):
                    self.check_lot(lot, person)

    def check_lot(self, lot, person):
        """The answers for this person, asked in some states of the lot."""
        many = len(lot[0][0])
        seats = [state[0][person] for state in lot]
        purses = [state[1][person] for state in lot]
        chances = [as_pair(Fraction(seats.count(seat), len(lot))) for seat in range(many)]
        for state in lot[::len(lot) // 6 + 1]:
            self.assert_exact(seat_chances(state, person), chances)
            self.assert_exact(mean_purse(state, person), as_pair(Fraction(sum(purses), len(lot))))
            self.assert_exact(range_of(state, person), (min(purses), max(purses)))

    def test_from_each_state_of_whole_lots(self):
        for many, coins in [(2, 7), (3, 5), (4, 2)]:
            for lot in all_lots(many, coins)[:12]:
                for person in range(many):
                    found = {(tuple(seat_chances(state, person)), mean_purse(state, person),
                              range_of(state, person)) for state in lot}
                    self.assertEqual(len(found), 1)

    def test_without_coins_nobody_moves(self):
        for many in range(2, 13):
            state = (tuple(reversed(range(many))), (0,) * many)
            for person in range(many):
                wanted = [(0, 1)] * many
                wanted[many - 1 - person] = (1, 1)
                self.assert_exact(seat_chances(state, person), wanted)
                self.assert_exact(mean_purse(state, person), (0, 1))
                self.assert_exact(range_of(state, person), (0, 0))

    def test_one_coin_goes_to_and_fro(self):
        for many in range(3, 13):
            state = (tuple(range(many)), (0,) * (many - 2) + (1, 0))
            wanted = [(0, 1)] * (many - 2) + [(1, 2)] * 2
            self.assert_exact(seat_chances(state, many - 2), wanted)
            self.assert_exact(mean_purse(state, many - 1), (1, 2))
            self.assert_exact(range_of(state, many - 1), (0, 1))
            self.assert_exact(mean_purse(state, 0), (0, 1))


class GreatLotsTest(Checks, unittest.TestCase):
    def setUp(self):
        self.states = full_states() + full_states(seed=2, most=40) + some_states()

    def test_fractions_in_lowest_terms(self):
        for state in self.states:
            for person in range(len(state[0])):
                for pair in [*seat_chances(state, person), mean_purse(state, person)]:
                    self.assert_exact(pair, as_pair(Fraction(*pair)))
                    self.assertEqual(math.gcd(*pair), 1)
                    self.assertGreaterEqual(pair[1], 1)

    def test_chances_add_up_to_1(self):
        for state in self.states:
            many = len(state[0])
            rows = [seat_chances(state, person) for person in range(many)]
            for row in rows:
                self.assertEqual(len(row), many)
                self.assertEqual(sum_of(row), 1)
            for seat in range(many):
                self.assertEqual(sum_of([row[seat] for row in rows]), 1)

    def test_averages_add_up_to_the_total(self):
        for state in self.states:
            found = [mean_purse(state, person) for person in range(len(state[0]))]
            self.assertEqual(sum_of(found), sum(state[1]))

    def test_as_a_sum_over_all_seatings(self):
        for state in [state for state in self.states if len(state[0]) < 7]:
            rows = seatings(state)
            whole = sum(ways for _, _, _, ways in rows)
            many = len(state[0])
            for person in range(many):
                chances = [as_pair(Fraction(
                    sum(ways for seats, _, _, ways in rows if seats[person] == seat), whole))
                    for seat in range(many)]
                self.assert_exact(seat_chances(state, person), chances)
                coins = sum((least[person] + spare) * ways for _, least, spare, ways in rows)
                self.assert_exact(mean_purse(state, person), as_pair(Fraction(coins, whole)))
                wanted = (min(least[person] for _, least, _, _ in rows),
                          max(least[person] + spare * many for _, least, spare, _ in rows))
                self.assert_exact(range_of(state, person), wanted)

    def test_the_average_lies_in_the_range(self):
        for state in self.states:
            for person in range(len(state[0])):
                low, high = range_of(state, person)
                self.assertTrue(0 <= low <= state[1][person] <= high <= sum(state[1]))
                self.assertTrue(low <= Fraction(*mean_purse(state, person)) <= high)

    def test_people_with_equal_residues_have_equal_chances(self):
        for many in range(2, 13):
            for coins in (3 * many, 10 ** 40 * many):
                seats = tuple(range(many))
                state = (seats, tuple(coins - seat for seat in seats))
                self.assertEqual(set(model_residues(state)), {coins % many})
                for person in range(many):
                    self.assert_exact(seat_chances(state, person), [(1, many)] * many)
                    self.assert_exact(mean_purse(state, person), as_pair(Fraction(sum(state[1]), many)))
                    self.assert_exact(range_of(state, person), range_of(state, 0))

    def test_great_ranges(self):
        state = ((0, 1), (MOST_COINS, MOST_COINS))
        self.assert_exact(range_of(state, 0), (0, 2 * MOST_COINS))
        # On seat 0 the second person has an odd number of coins.
        self.assert_exact(range_of(((1, 0), (4, 10)), 0), (0, 14))
        self.assert_exact(range_of(((0, 1), (5, 10)), 0), (0, 15))

    def test_one_lot_one_answer(self):
        for seed, state in enumerate(full_states(seed=5)):
            other = mate(state, seed)
            for person in (0, len(state[0]) - 1):
                self.assert_exact(seat_chances(other, person), seat_chances(state, person))
                self.assert_exact(mean_purse(other, person), mean_purse(state, person))
                self.assert_exact(range_of(other, person), range_of(state, person))

    def test_more_people_than_the_limit(self):
        many = 30
        seats = tuple((7 * k + 3) % many for k in range(many))
        for state in [(seats, (1,) * many), (seats, (10 ** 45,) * many)]:
            self.assertEqual(sum_of(seat_chances(state, 7)), 1)
            found = [mean_purse(state, person) for person in range(many)]
            self.assertEqual(sum_of(found), sum(state[1]))
            self.assertEqual(range_of(state, 7)[0], 0)


class CallsTest(Checks, unittest.TestCase):
    def test_nobody_has_this_number(self):
        for function in (seat_chances, mean_purse, range_of):
            for state in full_states() + [RICH, TRIO]:
                many = len(state[0])
                for person in (-1, -many, many, many + 1, 10 ** 60, -10 ** 60, 10 ** 5000):
                    self.assert_raises(NoPerson, {"person": person}, function, state, person)
                    self.assert_raises(NoPerson, {"person": person}, function,
                                       person=person, state=[list(part) for part in state])

    def test_lists_for_tuples_and_names(self):
        names = ["state", "person"]
        self.assert_any_shape(seat_chances, [RICH, 0], names, [(1, 7), (2, 7), (4, 7)])
        self.assert_any_shape(mean_purse, [TRIO, 0], names, (1, 2))
        self.assert_any_shape(range_of, [RICH, 0], names, (0, 3))

    def test_a_returned_list_is_new(self):
        for _ in range(2):
            found = seat_chances(RICH, 0)
            self.assert_exact(found, [(1, 7), (2, 7), (4, 7)])
            found.clear()


if __name__ == "__main__":
    unittest.main()
