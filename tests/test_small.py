"""all_states, spheres, farthest, width and ways_many."""

import unittest

from tollround.counting import lot_many, state_at
from tollround.errors import Barred, OtherPeople, TooMany
from tollround.leading import distance, is_way
from tollround.small import all_states, farthest, spheres, ways_many, width
from tests.samples import (
    Checks, PAIR, RICH, SMALL, TRIO, all_lots, distances_from, full_states, mate, model_exchange,
    people_at,
)

FAR = ((2, 1, 0), (0, 0, 3))
# Lots of twelve people and of thirty, with many seats where nobody has a coin.
GREAT_TABLES = [
    (tuple(range(12)), (6, 0, 0, 2, 0, 0, 0, 1, 0, 0, 0, 0)),
    ((3, 10, 7, 2, 6, 1, 0, 4, 5, 9, 8, 11), (1, 0, 0, 0, 1, 0, 4, 0, 0, 0, 1, 0)),
    (tuple(reversed(range(30))), (0,) * 20 + (1, 0, 0, 0, 0, 4, 0, 0, 0, 0)),
]


def two_people(coins):
    """Two people with so many coins, all in the purse of the second one."""
    return ((0, 1), (0, coins))


def neighbours(state):
    """The STATEs that are one exchange away."""
    return [model_exchange(state, seat) for seat, person in enumerate(people_at(state))
            if state[1][person]]


def ways_from(state):
    """How many shortest ROWs lead to each STATE of the lot, counted layer by layer."""
    steps = distances_from(state)
    ways = {state: 1}
    for layer in range(1, max(steps.values()) + 1):
        for other in [other for other in steps if steps[other] == layer]:
            ways[other] = sum(ways[before] for before in neighbours(other)
                              if steps[before] == layer - 1)
    return ways


def all_rows(state, length):
    """All ROWs of so many possible exchanges, with the STATEs to which they lead."""
    rows = [([], state)]
    for _ in range(length):
        rows = [(row + [seat], model_exchange(present, seat)) for row, present in rows
                for seat, person in enumerate(people_at(present)) if present[1][person]]
    return rows


class SearchTest(Checks, unittest.TestCase):
    def test_examples(self):
        self.assert_exact(all_states(TRIO), [((0, 1, 2), (1, 0, 0)), ((1, 0, 2), (0, 1, 0))])
        self.assert_exact(spheres(RICH), [1, 2, 2, 2])
        self.assert_exact([farthest(RICH), width(RICH), width(TRIO)], [3, 4, 1])
        self.assert_exact([ways_many(RICH, FAR), ways_many(RICH, RICH)], [1, 1])

    def check_state(self, state):
        """The answers about one STATE."""
        steps = distances_from(state)
        self.assert_exact(all_states(state), sorted(steps))
        most = max(steps.values())
        found = list(steps.values())
        self.assert_exact(spheres(state), [found.count(at) for at in range(most + 1)])
        self.assert_exact(farthest(state), most)

    def test_as_a_search_through_all_exchanges(self):
        for many, coins in SMALL + [(2, 20), (3, 8)]:
            for lot in all_lots(many, coins)[:60]:
                for state in lot[::len(lot) // 3 + 1]:
                    self.check_state(state)
                wanted = max(max(distances_from(state).values()) for state in lot)
                self.assert_exact(width(lot[0]), wanted)
                self.assert_exact(width(lot[-1]), wanted)

    def test_ways_counted_layer_by_layer(self):
        for many, coins in SMALL + [(2, 20), (3, 8)]:
            for lot in all_lots(many, coins)[:40]:
                one = lot[len(lot) // 3]
                wanted = ways_from(one)
                for other in lot:
                    self.assert_exact(ways_many(one, other), wanted[other])

    def test_ways_as_all_rows_one_by_one(self):
        for many, coins in [(2, 4), (3, 3), (3, 5), (4, 2)]:
            for lot in all_lots(many, coins)[:10]:
                one = lot[0]
                for other in lot:
                    steps = distance(one, other)
                    if steps < 6:
                        rows = [row for row, end in all_rows(one, steps) if end == other]
                        self.assert_exact(ways_many(one, other), len(rows))
                        self.assertTrue(all(is_way(one, other, row) for row in rows))

    def test_as_many_ways_there_as_back(self):
        for lot in all_lots(4, 3)[:20]:
            for other in lot[::3]:
                self.assert_exact(ways_many(other, lot[0]), ways_many(lot[0], other))

    def test_a_state_and_itself(self):
        for state in [PAIR, TRIO, RICH, *GREAT_TABLES]:
            self.assert_exact(ways_many(state, state), 1)
            self.assert_exact(spheres(state)[0], 1)

    def test_a_lot_of_one_state(self):
        for many in range(2, 13):
            state = (tuple(reversed(range(many))), (0,) * many)
            self.assert_exact(all_states(state), [state])
            self.assert_exact([spheres(state), farthest(state), width(state)], [[1], 0, 0])
            self.assert_exact(ways_many(state, state), 1)

    def test_twelve_people_and_more(self):
        for state in GREAT_TABLES:
            self.check_state(state)
            found = all_states(state)
            self.assertTrue(30 < len(found) <= 300)
            self.assert_exact(found, [state_at(state, number) for number in range(len(found))])
            wanted = ways_from(state)
            for other in found:
                self.assert_exact(ways_many(state, other), wanted[other])
            self.assert_exact(width(state), max(farthest(other) for other in found))


class EdgesTest(Checks, unittest.TestCase):
    def test_lots_of_exactly_300_states(self):
        state = two_people(299)
        self.assert_exact(lot_many(state), 300)
        self.assert_exact(all_states(state), sorted(distances_from(state)))
        self.assert_exact(sum(spheres(state)), 300)
        # All coins on the one side, all on the other: a line of STATEs.
        self.assert_exact(width(state), 299)
        self.assert_exact(ways_many(state, ((0, 1), (2, 297))), ways_from(state)[((0, 1), (2, 297))])

    def test_lots_of_more_than_300_states(self):
        for state, many in [(two_people(300), 301), (two_people(301), 302),
                            (two_people(10 ** 42), 10 ** 42 + 1),
                            *[(state, lot_many(state)) for state in full_states()]]:
            self.assertGreater(many, 300)
            for function in (all_states, spheres, farthest, width):
                self.assert_raises(TooMany, {"many": many}, function, state)
                self.assert_raises(TooMany, {"many": many}, function,
                                   state=[list(part) for part in state])
            self.assert_raises(TooMany, {"many": many}, ways_many, state, state)

    def test_errors_of_ways_many_in_their_order(self):
        great = two_people(10 ** 42)
        self.assert_raises(OtherPeople, {"many": 3}, ways_many, PAIR, TRIO)
        self.assert_raises(OtherPeople, {"many": 2}, ways_many, RICH, PAIR)
        # One of the lots has too many STATEs, too.
        self.assert_raises(OtherPeople, {"many": 3}, ways_many, great, RICH)
        self.assert_raises(OtherPeople, {"many": 2}, ways_many, other=great, one=RICH)
        self.assert_raises(Barred, {"reason": "total"}, ways_many, RICH, TRIO)
        self.assert_raises(Barred, {"reason": 0}, ways_many, RICH, ((0, 1, 2), (1, 1, 1)))
        self.assert_raises(Barred, {"reason": "total"}, ways_many, great, PAIR)
        self.assert_raises(Barred, {"reason": 0}, ways_many, great, ((0, 1), (1, 10 ** 42 - 1)))
        self.assert_raises(TooMany, {"many": 10 ** 42 + 1}, ways_many, great,
                           ((0, 1), (2, 10 ** 42 - 2)))
        for seed, state in enumerate(full_states()):
            self.assert_raises(TooMany, {"many": lot_many(state)}, ways_many, state,
                               mate(state, seed))

    def test_lists_for_tuples_and_names(self):
        self.assert_any_shape(all_states, [PAIR], ["state"], [PAIR, ((1, 0), (0, 1))])
        self.assert_any_shape(spheres, [RICH], ["state"], [1, 2, 2, 2])
        self.assert_any_shape(farthest, [RICH], ["state"], 3)
        self.assert_any_shape(width, [RICH], ["state"], 4)
        self.assert_any_shape(ways_many, [RICH, FAR], ["one", "other"], 1)

    def test_returned_lists_are_new(self):
        for function in (all_states, spheres):
            first = function(RICH)
            kept = list(first)
            first.clear()
            self.assert_exact(function(RICH), kept)


if __name__ == "__main__":
    unittest.main()
