"""Nothing goes through exchanges, coins, states or residues one by one."""

import unittest

from tollround.chances import mean_purse, range_of, seat_chances
from tollround.counting import (
    lot_many, lots_many, many_with, state_at, state_number, states_many,
)
from tollround.desk import answers
from tollround.errors import TooMany
from tollround.leading import (
    bar, crossings, distance, is_way, leads, nearer, plan, shifts,
)
from tollround.party import Party
from tollround.passes import after_passes, passes_many, stopper
from tollround.small import all_states, farthest, spheres, ways_many, width
from tollround.texts import state_text
from tollround.wishes import meets, nearest, wish_at, wish_many
from tests.samples import MOST_COINS, Timed, full_states, mate, model_residues

FREE = (None, None)


class TimeTest(Timed, unittest.TestCase):
    def setUp(self):
        self.one = full_states(most=MOST_COINS)[-1]
        self.other = mate(self.one, 3)

    def test_twelve_people_who_are_far_away(self):
        self.assertEqual(len(self.one[0]), 12)
        self.assertTrue(self.timed(leads, self.one, self.other))
        self.assertIsNone(self.timed(bar, self.one, self.other))
        self.assertEqual(sum(self.timed(shifts, self.one, self.other)), 0)
        self.assertGreater(len(self.timed(crossings, self.one, self.other)), 60)
        self.assertGreater(self.timed(distance, self.one, self.other), 10 ** 41)
        self.assertIn(self.timed(nearer, self.one, self.other), range(12))
        self.assertFalse(self.timed(is_way, self.one, self.other, [0] * 200))
        with self.assertRaises(TooMany):
            self.timed(plan, self.one, self.other)

    def test_a_plan_of_almost_1000_exchanges(self):
        # The first person goes round the table and passes all others 84 times.
        seats = tuple(range(12))
        end = (seats, (MOST_COINS - 84 * 11,) + (MOST_COINS + 84,) * 11)
        self.assertEqual(len(self.timed(plan, (seats, (MOST_COINS,) * 12), end)), 924)

    def test_numbers_in_the_lots_of_twelve_people(self):
        many = self.timed(lot_many, self.one)
        self.assertGreater(many, 10 ** 460)
        self.assertEqual(self.timed(many_with, model_residues(self.one), sum(self.one[1])), many)
        for number in (0, many // 7, many - 1):
            found = self.timed(state_at, self.one, number)
            self.assertEqual(self.timed(state_number, self.one, found), number)

    def test_numbers_of_states_and_lots(self):
        for total in (0, 1, 30, 54, 55, 65, 66, 131, 132, 133, 10 ** 40, 12 * MOST_COINS):
            self.assertGreater(self.timed(states_many, 12, total), 0)
            self.assertGreater(self.timed(lots_many, 12, total), 0)
            self.assertGreater(self.timed(lots_many, 16, total), 0)


class WishesAndPassesTest(Timed, unittest.TestCase):
    def setUp(self):
        self.state = full_states(most=MOST_COINS)[-1]
        self.other = mate(self.state, 3)
        self.assertEqual(len(self.state[0]), 12)

    def test_chances(self):
        for person in range(12):
            self.assertEqual(len(self.timed(seat_chances, self.state, person)), 12)
            self.assertGreater(self.timed(mean_purse, self.state, person)[0], 10 ** 40)
            self.assertGreater(self.timed(range_of, self.state, person)[1], 10 ** 42)

    def test_wishes(self):
        for wish in [(FREE,) * 12, ((3, None),) + (FREE,) * 11,
                     (FREE,) * 11 + ((None, self.other[1][11]),)]:
            many = self.timed(wish_many, self.state, wish)
            self.assertGreater(many, 10 ** 350)
            for number in (0, many // 7, many - 1):
                found = self.timed(wish_at, self.state, wish, number)
                self.assertTrue(self.timed(meets, found, wish))

    def test_the_nearest_of_one_state(self):
        wish = tuple((None, coins) for coins in self.other[1])
        self.assertEqual(self.timed(nearest, self.state, wish), self.other)

    def test_the_nearest_of_a_few_hundred_states(self):
        # Two people share few coins, and all others have the purses of the other STATE.
        purses = list(self.other[1])
        for person in (0, 7):
            left = purses[person] % 12 + 12 * 70
            purses[3] += purses[person] - left
            purses[person] = left
        wish = [(None, coins) for coins in purses]
        wish[0] = wish[7] = FREE
        many = self.timed(wish_many, self.state, wish)
        self.assertTrue(200 < many <= 300)
        found = self.timed(nearest, self.state, wish)
        self.assertTrue(self.timed(meets, found, wish))

    def test_the_nearest_of_a_whole_lot_of_twelve_people(self):
        state = (tuple(range(12)), (6, 0, 0, 2, 0, 0, 0, 1, 0, 0, 0, 0))
        self.assertEqual(self.timed(wish_many, state, (FREE,) * 12), 288)
        self.assertEqual(self.timed(nearest, state, (FREE,) * 12), state)

    def test_passes(self):
        state = (self.state[0], (MOST_COINS,) + self.state[1][1:])
        for row in ([0, 1, 2] * 13, [11, 5, 3, 3, 2, 0, 7] * 5, list(range(12)) * 3, [4] * 40, []):
            many = self.timed(passes_many, state, row)
            self.timed(after_passes, state, row, 10 ** 60 if many is None else many)
            self.assertEqual(self.timed(stopper, state, row) is None, many is None)


class SmallLotsTest(Timed, unittest.TestCase):
    def test_lots_of_about_300_states(self):
        for state in [((0, 1), (0, 299)), (tuple(range(12)), (6, 0, 0, 2, 0, 0, 0, 1, 0, 0, 0, 0)),
                      (tuple(range(40)), (6, 0, 0, 2, 0, 0, 0, 1) + (0,) * 32)]:
            found = self.timed(all_states, state)
            self.assertTrue(280 < len(found) <= 300)
            self.assertEqual(sum(self.timed(spheres, state)), len(found))
            self.assertLessEqual(self.timed(farthest, state), self.timed(width, state))
            self.assertGreater(self.timed(ways_many, found[0], found[-1]), 0)

    def test_whole_great_lots(self):
        state = full_states(most=MOST_COINS)[-1]
        for function in (all_states, spheres, farthest, width):
            with self.assertRaises(TooMany):
                self.timed(function, state)


class PartyTest(Timed, unittest.TestCase):
    def test_sixty_deeds_of_twelve_people(self):
        state = full_states(most=MOST_COINS)[-1]
        other, party = mate(state, 3), Party(state)
        for _ in range(20):
            self.timed(party.go, other)
            self.timed(party.again, [0, 0] * 20, 10 ** 60)
            self.timed(party.do, [("give", 0, 10 ** 42), ("take", 0, 10 ** 42), ("go", state)])
        self.assertEqual(self.timed(party.twin).deeds(), 100)
        self.assertEqual(self.timed(party.as_of, 1).state(), other)
        self.assertGreater(self.timed(party.lot), 10 ** 400)

    def test_a_desk_with_sixty_lines(self):
        state = full_states(most=MOST_COINS)[-1]
        lines = [state_text(state), "number", "lot", f"again {10 ** 49} 0 0", "passes 1 1 2 2",
                 "go " + state_text(mate(state, 3)), "far " + state_text(state)]
        wish = "wish 3:? " + " ".join(["?:?"] * 11)
        self.assertEqual(len(self.timed(answers, "\n".join(lines + [wish] * 53))), 59)

    def test_a_desk_with_more_people(self):
        line = " ".join([f"{seat}:9" for seat in range(40)])
        text = "\n".join([line] + ["number", "lot", "at 0", "run 1 2 3"] * 3)
        self.assertEqual(len(self.timed(answers, text)), 12)


if __name__ == "__main__":
    unittest.main()
