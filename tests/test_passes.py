"""passes_many, after_passes and stopper."""

import math
import random
import unittest

from tollround.errors import Empty, Stops
from tollround.moves import run
from tollround.passes import after_passes, passes_many, stopper
from tests.samples import (
    Checks, MOST_COINS, PAIR, RICH, TRIO, full_states, model_exchange, model_run, people_at,
    possible_row, some_states,
)


def model_pass(state, row):
    """The STATE after one pass and None, or None and where it fails."""
    for at, seat in enumerate(row):
        person = people_at(state)[seat]
        if state[1][person] == 0:
            return None, (at, person)
        state = model_exchange(state, seat)
    return state, None


def model_passes(state, row):
    """The STATEs before each pass, one by one, and where the last one fails.

    It is None if passes never end, that is, if a STATE comes again.
    """
    found, seen = [state], {state}
    while True:
        state, failed = model_pass(state, row)
        if failed:
            return found, failed
        found.append(state)
        if state in seen:
            return found, None
        seen.add(state)


def small_cases(count, seed):
    """STATEs with few coins, and ROWs for them, some of which are possible at least once."""
    chance = random.Random(seed)
    found = []
    for at in range(count):
        many = chance.randint(2, 6)
        seats = list(range(many))
        chance.shuffle(seats)
        purses = [chance.choice((0, 0, 1, 2, 5, 12)) for _ in seats]
        purses[0] += 1
        state = (tuple(seats), tuple(purses))
        length = chance.choice((1, 2, 3, 5, 12, 40))
        row = [chance.randrange(many) for _ in range(length)]
        found.append((state, row if at % 2 else possible_row(state, length, at)))
    return found


def great_cases(seed=1):
    """STATEs with full purses, and ROWs of up to forty exchanges for them."""
    chance = random.Random(seed)
    found = []
    for state in full_states(seed) + full_states(seed + 1, most=10 ** 9):
        many = len(state[0])
        for length in (1, 2, 7, many, 40):
            found.append((state, [chance.randrange(many) for _ in range(length)]))
        # One person goes round and round and pays all others.
        found.append((state, list(range(many)) * (40 // many)))
    return found


class OneByOneTest(Checks, unittest.TestCase):
    def test_examples(self):
        self.assert_exact([passes_many(RICH, [0, 2]), passes_many(RICH, [0, 0])], [1, None])
        self.assert_exact(passes_many(RICH, [1]), 0)
        self.assert_exact(passes_many(((0, 1, 2), (10, 0, 0)), [0, 1, 2]), 3)
        self.assert_exact(after_passes(RICH, [0, 2], 1), ((1, 2, 0), (1, 2, 0)))
        self.assert_exact(after_passes(RICH, [0, 0], 10 ** 60), ((0, 1, 2), (2, 0, 1)))
        self.assert_raises(Stops, {"many": 1}, after_passes, RICH, [0, 2], 2)
        self.assert_exact(stopper(RICH, [0, 2]), (0, 2))
        self.assert_exact([stopper(RICH, [0, 0]), stopper(RICH, [1])], [None, (0, 1)])

    def check(self, state, row):
        """All answers, against passes that are done one by one."""
        states, failed = model_passes(state, row)
        wanted = len(states) - 1 if failed else None
        self.assert_exact(passes_many(state, row), wanted)
        self.assert_exact(stopper(state, row), failed)
        for many in range(len(states)):
            self.assert_exact(after_passes(state, row, many), states[many])
        if failed:
            for many in (wanted + 1, wanted + 2, 10 ** 60):
                self.assert_raises(Stops, {"many": wanted}, after_passes, state, row, many)
        else:
            first = states.index(states[-1])
            period = len(states) - 1 - first
            for many in (10 ** 60, 10 ** 60 + 1, 10 ** 42 + 7):
                self.assert_exact(after_passes(state, row, many),
                                  states[first + (many - first) % period])
        return failed

    def test_many_states_and_rows(self):
        found = [(wanted, len(row)) for (state, row) in small_cases(900, 1)
                 for wanted in [self.check(state, row)]]
        failed = [(pair[0], length) for pair, length in found if pair]
        # All kinds of ends are there.
        self.assertGreater(len([1 for at, _ in failed if at == 0]), 50)
        self.assertGreater(len([1 for at, _ in failed if at > 0]), 50)
        self.assertGreater(len([1 for at, length in failed if at > 0 and at == length - 1]), 10)
        self.assertGreater(len(found) - len(failed), 50)

    def test_rows_of_one_and_two_exchanges_at_small_tables(self):
        for many in (2, 3, 4):
            for purses in [(0,) * many, (1,) * many, (3,) + (0,) * (many - 1), tuple(range(many))]:
                for state in [(tuple(range(many)), purses), (tuple(reversed(range(many))), purses)]:
                    for one in range(many):
                        self.check(state, [one])
                        for other in range(many):
                            self.check(state, [one, other])
                            self.check(state, [one, other, one, (other + 1) % many])

    def test_a_pass_that_fails_in_the_first_pass_or_later_early_or_late(self):
        walk = [0, 1, 2]
        for coins, many, end in [(0, 0, (0, 0)), (1, 0, (1, 0)), (2, 0, (2, 0)), (3, 1, (0, 0)),
                                 (4, 1, (1, 0)), (5, 1, (2, 0)), (300, 100, (0, 0)),
                                 (3 * 10 ** 40 + 2, 10 ** 40, (2, 0))]:
            state = ((0, 1, 2), (coins, 0, 0))
            self.assert_exact(passes_many(state, walk), many)
            self.assert_exact(stopper(state, walk), end)
            if coins < 301:
                self.assertEqual(self.check(state, walk), end)


class CircuitsTest(Checks, unittest.TestCase):
    """After a pass people sit otherwise, and it takes several until they sit as at first."""

    def test_how_many_passes_until_everybody_sits_as_at_first(self):
        for many in range(2, 13):
            seats = tuple(range(many))
            state = (seats, (MOST_COINS,) * many)
            # The person on seat 0 goes past all but one of the others, who move on.
            row = list(range(many - 1))
            for passes in range(1, many):
                self.assertNotEqual(after_passes(state, row, passes)[0], seats)
            self.assert_exact(after_passes(state, row, many)[0], seats)
            for passes in range(2 * many + 1):
                self.assert_exact(after_passes(state, row, passes), model_run(state, row * passes))

    def test_circuits_of_several_lengths(self):
        # Three people, four and five take turns, each on seats of their own.
        row = [0, 1, 3, 4, 5, 7, 8, 9, 10]
        state = (tuple(range(12)), (10 ** 40,) * 12)
        seats = [after_passes(state, row, passes)[0] for passes in range(1, 121)]
        self.assertEqual(seats.index(state[0]) + 1, math.lcm(3, 4, 5))
        for passes in (59, 60, 61, 119, 120):
            self.assert_exact(after_passes(state, row, passes), model_run(state, row * passes))

    def test_each_pays_in_turn(self):
        # Who begins on seat 0 pays both others; everybody does so once in three passes.
        state = ((0, 1, 2), (2, 2, 2))
        self.assert_exact(passes_many(state, [0, 1]), None)
        self.assert_exact(passes_many(((0, 1, 2), (2, 0, 0)), [0, 1]), 1)
        self.assert_exact(stopper(((0, 1, 2), (2, 0, 0)), [0, 1]), (1, 1))
        self.assert_exact(passes_many(((0, 1, 2), (2, 1, 0)), [0, 1]), None)
        self.assert_exact(after_passes(((0, 1, 2), (2, 1, 0)), [0, 1], 2), ((1, 2, 0), (1, 0, 2)))

    def test_never_ending_rows(self):
        for state in full_states() + some_states():
            many = len(state[0])
            self.assert_exact(passes_many(state, []), None)
            self.assert_exact(stopper(state, []), None)
            for passes in (0, 1, 10 ** 60):
                self.assert_exact(after_passes(state, [], passes), state)
            payers = [seat for seat, person in enumerate(people_at(state)) if state[1][person]]
            for seat in payers:
                row = [seat] * (4 if many > 2 else 2)
                self.assert_exact(passes_many(state, row), None)
                self.assert_exact(stopper(state, row), None)
                self.assert_exact(after_passes(state, row, 10 ** 60), state)

    def test_a_row_there_and_back_never_ends(self):
        for seed, state in enumerate(full_states()):
            there = possible_row(state, 20, seed)
            row = there + there[::-1]
            self.assert_exact(passes_many(state, row), None)
            self.assert_exact(after_passes(state, row, 10 ** 60 - 1), state)


class GreatTest(Checks, unittest.TestCase):
    def test_where_passes_end(self):
        ends = 0
        for state, row in great_cases():
            many = passes_many(state, row)
            if many is None:
                self.assert_exact(stopper(state, row), None)
                continue
            ends += many > 10 ** 5
            last = after_passes(state, row, many)
            self.assertTrue(min(last[1]) >= 0)
            failed = model_pass(last, row)[1]
            self.assertIsNotNone(failed)
            self.assert_exact(stopper(state, row), failed)
            with self.assertRaises(Empty):
                run(last, row)
            for more in (1, 2, 10 ** 59):
                self.assert_raises(Stops, {"many": many}, after_passes, state, row, many + more)
            self.assert_exact(after_passes(last, row, 0), last)
            self.assert_exact(passes_many(last, row), 0)
        self.assertGreater(ends, 20)

    def test_the_passes_before_the_end_one_by_one(self):
        for state, row in great_cases(seed=3):
            many = passes_many(state, row)
            first = 10 ** 60 if many is None else max(0, many - 15)
            present = after_passes(state, row, first)
            for passes in range(15 if many is None else many - first):
                present = model_pass(present, row)[0]
                self.assert_exact(after_passes(state, row, first + passes + 1), present)

    def test_passes_add_up(self):
        chance = random.Random(5)
        for state, row in great_cases(seed=5) + small_cases(200, 5):
            many = passes_many(state, row)
            most = 10 ** 60 if many is None else many
            for _ in range(4):
                first = chance.randint(0, most)
                more = chance.randint(0, most - first)
                between = after_passes(state, row, first)
                self.assert_exact(after_passes(between, row, more),
                                  after_passes(state, row, first + more))
                left = None if many is None else many - first
                self.assert_exact(passes_many(between, row), left)
                self.assert_exact(stopper(between, row), stopper(state, row))

    def test_one_pass_is_a_run(self):
        for state, row in great_cases(seed=7):
            self.assert_exact(after_passes(state, row, 1), run(state, row))
            self.assert_exact(after_passes(state, row, 3), run(state, row * 3))

    def test_exact_numbers(self):
        # One person walks round the table, pass by pass, and pays a coin on each seat.
        for many in range(2, 13):
            seats, row = tuple(range(many)), list(range(many))
            for coins in (many - 1, 10 ** 40, 10 ** 42, 10 ** 42 + many - 1):
                state = (seats, (coins,) + (0,) * (many - 1))
                self.assert_exact(passes_many(state, row), coins // many)
                self.assert_exact(stopper(state, row), (coins % many, 0))
                left = after_passes(state, row, coins // many)
                self.assert_exact([left[0][0], left[1][0]], [0, coins % many])
        self.assert_exact(passes_many(((0, 1), (10 ** 40, 0)), [0, 1]), 10 ** 40 // 2)
        self.assert_exact(passes_many(((0, 1, 2), (10 ** 40, 0, 0)), [0, 1, 2]), 10 ** 40 // 3)
        self.assert_exact(stopper(((0, 1, 2), (10 ** 40, 0, 0)), [0, 1, 2]), (1, 0))

    def test_more_people_than_the_limit(self):
        seats = tuple((7 * k + 3) % 40 for k in range(40))
        state = (seats, (10 ** 45,) * 40)
        row = [(11 * k) % 40 for k in range(40)] * 3
        many = passes_many(state, row)
        self.assert_exact(after_passes(state, row, 50), model_run(state, row * 50))
        self.assertTrue(many is None or many > 10 ** 40)


class CallsTest(Checks, unittest.TestCase):
    def test_no_passes_at_all(self):
        for state in (PAIR, TRIO, RICH, *some_states()):
            for row in ([], [0], [1, 0], list(range(len(state[0])))):
                self.assert_exact(after_passes(state, row, 0), state)

    def test_stops_with_the_number_of_whole_passes(self):
        for many in (1, 2, 10 ** 60):
            self.assert_raises(Stops, {"many": 0}, after_passes, RICH, [1], many)
            self.assert_raises(Stops, {"many": 0}, after_passes, many=many, row=(1,), state=RICH)

    def test_lists_for_tuples_and_names(self):
        names = ["state", "row", "many"]
        self.assert_any_shape(passes_many, [RICH, [0, 2]], names[:2], 1)
        self.assert_any_shape(after_passes, [RICH, [0, 2], 1], names, ((1, 2, 0), (1, 2, 0)))
        self.assert_any_shape(after_passes, [RICH, [], 5], names, RICH)
        self.assert_any_shape(stopper, [RICH, [0, 2]], names[:2], (0, 2))


if __name__ == "__main__":
    unittest.main()
