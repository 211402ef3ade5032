"""Nothing goes through exchanges, coins, states or residues one by one."""

import time
import unittest

from tollround.counting import (
    lot_many, lots_many, many_with, state_at, state_number, states_many,
)
from tollround.errors import TooMany
from tollround.leading import (
    bar, crossings, distance, is_way, leads, nearer, plan, shifts,
)
from tests.samples import MOST_COINS, full_states, mate, model_residues

# Of the time of the processor. Each call takes far less; to count one by one
# would take longer than anybody waits.
SECONDS = 1


class TimeTest(unittest.TestCase):
    def setUp(self):
        self.one = full_states(most=MOST_COINS)[-1]
        self.other = mate(self.one, 3)

    def timed(self, function, *args):
        start = time.process_time()
        try:
            return function(*args)
        finally:
            self.assertLess(time.process_time() - start, SECONDS, function.__name__)

    def test_twelve_people_who_are_far_away(self):
        self.assertEqual(len(self.one[0]), 12)
        self.assertTrue(self.timed(leads, self.one, self.other))
        self.assertIsNone(self.timed(bar, self.one, self.other))
        self.assertEqual(sum(self.timed(shifts, self.one, self.other)), 0)
        self.assertGreater(len(self.timed(crossings, self.one, self.other)), 60)
        self.assertGreater(self.timed(distance, self.one, self.other), 10 ** 41)
        self.assertIn(self.timed(nearer, self.one, self.other), range(12))
        self.assertFalse(self.timed(is_way, self.one, self.other, [0] * 200))
        with self.assertRaises(TooMany):
            self.timed(plan, self.one, self.other)

    def test_a_plan_of_almost_1000_exchanges(self):
        # The first person goes round the table and passes all others 84 times.
        seats = tuple(range(12))
        end = (seats, (MOST_COINS - 84 * 11,) + (MOST_COINS + 84,) * 11)
        self.assertEqual(len(self.timed(plan, (seats, (MOST_COINS,) * 12), end)), 924)

    def test_numbers_in_the_lots_of_twelve_people(self):
        many = self.timed(lot_many, self.one)
        self.assertGreater(many, 10 ** 460)
        self.assertEqual(self.timed(many_with, model_residues(self.one), sum(self.one[1])), many)
        for number in (0, many // 7, many - 1):
            found = self.timed(state_at, self.one, number)
            self.assertEqual(self.timed(state_number, self.one, found), number)

    def test_numbers_of_states_and_lots(self):
        for total in (0, 1, 30, 54, 55, 65, 66, 131, 132, 133, 10 ** 40, 12 * MOST_COINS):
            self.assertGreater(self.timed(states_many, 12, total), 0)
            self.assertGreater(self.timed(lots_many, 12, total), 0)
            self.assertGreater(self.timed(lots_many, 16, total), 0)


if __name__ == "__main__":
    unittest.main()
