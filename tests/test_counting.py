"""lot_many, many_with, states_many and lots_many."""

import itertools
import math
import unittest

from tollround.counting import lot_many, lots_many, many_with, states_many
from tests.samples import (
    Checks, MOST_COINS, PAIR, RICH, SMALL, TRIO, all_lots, all_states, distances_from,
    full_states, mate, model_residues, some_states,
)


def counted_with(marks, coins):
    """The number of STATEs with these residues and this total, seating by seating.

    On given seats everybody has the least purse of the residue, and the rest is
    shared out in rounds of as many coins as there are people.
    """
    many, found = len(marks), 0
    for seats in itertools.permutations(range(many)):
        rest = coins - sum((mark - seat) % many for mark, seat in zip(marks, seats))
        if rest >= 0 and rest % many == 0:
            found += math.comb(rest // many + many - 1, many - 1)
    return found


class ManyWithTest(Checks, unittest.TestCase):
    def test_examples(self):
        self.assert_exact([lot_many(RICH), lot_many(TRIO), lot_many(PAIR)], [7, 2, 2])
        self.assert_exact(many_with((0, 0, 0), 0), 0)
        self.assert_exact(many_with((0, 0, 1), 1), 2)

    def test_lots_as_a_search_through_all_exchanges(self):
        for many, coins in SMALL + [(2, 20), (3, 9), (4, 4)]:
            for lot in all_lots(many, coins):
                for state in lot[::7]:
                    self.assert_exact(lot_many(state), len(lot))
        state = ((0, 1, 2, 3, 4), (2, 0, 1, 0, 1))
        self.assert_exact(lot_many(state), len(distances_from(state)))

    def test_all_residues_as_a_search_through_all_states(self):
        for many, coins in SMALL + [(2, 20), (3, 9), (4, 4)]:
            found = {}
            for state in all_states(many, coins):
                marks = model_residues(state)
                found[marks] = found.get(marks, 0) + 1
            for marks in itertools.product(range(many), repeat=many):
                self.assert_exact(many_with(marks, coins), found.get(marks, 0))

    def test_residues_that_no_state_has(self):
        # Not the right sum modulo the number of people.
        for coins in range(8):
            self.assert_exact(many_with((0, 0), 2 * coins), 0)
            self.assert_exact(many_with((0, 1), 2 * coins + 1), 0)
            self.assert_exact(many_with((1, 1, 0), 3 * coins + 1), 0)
        self.assert_exact(many_with((0, 0), 10 ** 42), 0)
        # The right sum, but more coins are needed.
        self.assert_exact(many_with((0, 0, 0, 0), 2), 0)
        self.assert_exact(many_with((3, 3, 3, 3), 2), 0)
        self.assert_exact(many_with((11,) * 12, 54), 0)
        self.assert_exact(many_with((11,) * 12, 66), math.factorial(12))
        self.assert_exact(many_with((0,) * 12, 54), 0)
        self.assert_exact(many_with((0,) * 12, 66), math.factorial(12))
        self.assert_exact(many_with((1,) * 12, 0), 0)

    def test_the_order_of_the_people_does_not_matter(self):
        for marks in itertools.permutations((0, 1, 1, 3)):
            self.assert_exact(many_with(marks, 7), counted_with((0, 1, 1, 3), 7))

    def test_the_sum_over_all_residues_is_the_number_of_all_states(self):
        for many, totals in [(2, (0, 1, 17, 10 ** 42)), (3, (0, 1, 8, 10 ** 42 + 1)),
                             (4, (0, 1, 5, 12, 10 ** 41)), (5, (0, 3, 19, 20, 10 ** 40))]:
            for coins in totals:
                found = sum(many_with(marks, coins)
                            for marks in itertools.product(range(many), repeat=many))
                wanted = math.factorial(many) * math.comb(coins + many - 1, many - 1)
                self.assert_exact(found, wanted)

    def test_full_purses_as_a_sum_over_all_seatings(self):
        for state in full_states()[:4] + full_states(seed=2)[:4] + some_states()[:24]:
            wanted = counted_with(model_residues(state), sum(state[1]))
            self.assert_exact(lot_many(state), wanted)
            self.assert_exact(many_with(model_residues(state), sum(state[1])), wanted)
        for many in (2, 3, 4):
            for marks in itertools.product(range(many), repeat=many):
                for coins in range(10 ** 40, 10 ** 40 + many):
                    self.assert_exact(many_with(marks, coins), counted_with(marks, coins))

    def test_few_coins_as_a_sum_over_all_seatings(self):
        for many in (5, 6):
            for marks in list(itertools.product(range(many), repeat=many))[::379]:
                for coins in range(0, many * (many + 1), 1):
                    if (coins - sum(marks) + many * (many - 1) // 2) % many == 0:
                        self.assert_exact(many_with(marks, coins), counted_with(marks, coins))

    def test_one_lot_one_number(self):
        for seed, state in enumerate(full_states(seed=4)):
            self.assert_exact(lot_many(mate(state, seed)), lot_many(state))
            self.assertGreater(lot_many(state), 10 ** (39 * (len(state[0]) - 1)))

    def test_more_people_than_the_limit(self):
        # Two states: only the one coin moves, between the first two people.
        state = (tuple(range(40)), (1,) + (0,) * 39)
        self.assert_exact(lot_many(state), len(distances_from(state)))
        self.assertGreater(lot_many((tuple(range(75)), (10 ** 50,) * 75)), 10 ** 3000)

    def test_lists_for_tuples_and_names(self):
        self.assert_any_shape(lot_many, [RICH], ["state"], 7)
        self.assert_any_shape(many_with, [(0, 0, 1), 1], ["residues", "total"], 2)
        self.assert_any_shape(many_with, [(2, 0, 0), 1], ["residues", "total"], 0)
        marks = [2, 1, 0, 3]
        many_with(marks, 6)
        self.assert_exact(marks, [2, 1, 0, 3])


class StatesManyTest(Checks, unittest.TestCase):
    def test_examples(self):
        self.assert_exact(states_many(3, 1), 18)

    def test_as_a_search(self):
        for many, most in [(2, 13), (3, 12), (4, 6), (5, 2)]:
            for coins in range(most + 1):
                self.assert_exact(states_many(many, coins), len(all_states(many, coins)))

    def test_without_coins_and_with_one(self):
        for many in range(2, 15):
            self.assert_exact(states_many(many, 0), math.factorial(many))
            self.assert_exact(states_many(many, 1), math.factorial(many) * many)

    def test_great_totals(self):
        most = MOST_COINS
        self.assert_exact(states_many(2, most), 2 * (most + 1))
        self.assert_exact(states_many(3, most), 3 * (most + 1) * (most + 2))
        for many in range(2, 13):
            for coins in (10 ** 40, most, 12 * most):
                wanted = math.factorial(many)
                for part in range(1, many):
                    wanted *= coins + part
                self.assert_exact(states_many(many, coins), wanted // math.factorial(many - 1))

    def test_by_name(self):
        self.assert_exact(states_many(total=1, size=3), 18)


class LotsManyTest(Checks, unittest.TestCase):
    def test_examples(self):
        self.assert_exact([lots_many(3, 1), lots_many(3, 0), lots_many(2, 1)], [9, 6, 2])

    def test_as_a_search_through_all_exchanges(self):
        for many, most in [(2, 13), (3, 10), (4, 4)]:
            for coins in range(most + 1):
                self.assert_exact(lots_many(many, coins), len(all_lots(many, coins)))

    def test_as_the_residues_of_all_states(self):
        for many, most in [(2, 40), (3, 20), (4, 13), (5, 3)]:
            for coins in range(most + 1):
                wanted = len({model_residues(state) for state in all_states(many, coins)})
                self.assert_exact(lots_many(many, coins), wanted)

    def test_as_the_residues_that_some_state_has(self):
        for many, most in [(4, 14), (5, 22), (6, 7)]:
            marks = list(itertools.product(range(many), repeat=many))
            for coins in range(most + 1):
                wanted = len([item for item in marks if many_with(item, coins)])
                self.assert_exact(lots_many(many, coins), wanted)

    def test_without_coins_everybody_is_alone(self):
        for many in range(2, 13):
            self.assert_exact(lots_many(many, 0), math.factorial(many))

    def test_with_one_coin(self):
        # The coin goes to and fro between its owner and the next person.
        for many in range(3, 13):
            self.assert_exact(lots_many(many, 1), math.factorial(many) * many // 2)

    def test_with_many_coins_all_residues_of_the_right_sum(self):
        for many in range(2, 13):
            edge = many * (many - 1)
            for coins in (edge // 2 - 1, edge // 2, edge - many, edge - 2, edge - 1, edge, edge + 1,
                          edge + many, 2 * edge, 10 ** 40, 10 ** 42, 12 * 10 ** 42):
                self.assert_exact(lots_many(many, coins), many ** (many - 1))

    def test_the_last_total_with_fewer_lots(self):
        for many in range(3, 13):
            enough = (many - 1) * (many - 2) // 2
            self.assert_exact(lots_many(many, enough), many ** (many - 1))
            self.assert_exact(lots_many(many, enough - 1), many ** (many - 1) - many)

    def test_more_coins_never_make_fewer_lots(self):
        for many in range(2, 13):
            found = [lots_many(many, coins) for coins in range(many * (many - 1) // 2)]
            self.assertEqual(found, sorted(found))

    def test_by_name(self):
        self.assert_exact(lots_many(total=1, size=3), 9)


if __name__ == "__main__":
    unittest.main()
