"""leads, bar, shifts, crossings and distance."""

import unittest

from tollround.errors import Barred, OtherPeople
from tollround.leading import (
    bar, crossings, distance, is_way, leads, nearer, plan, shifts,
)
from tests.samples import (
    Checks, MOST_COINS, PAIR, RICH, SMALL, TRIO, all_lots, all_states, distances_from,
    full_states, mate, model_exchange, model_residues, model_run, people_at, possible_row,
    some_states,
)

FAR = ((2, 1, 0), (0, 0, 3))
NAMES = ["one", "other"]


def more_people(state, coins=0):
    """The same people and one more, behind the last seat."""
    return (state[0] + (len(state[0]),), state[1] + (coins,))


class LeadsTest(Checks, unittest.TestCase):
    def test_examples(self):
        self.assert_exact(leads(RICH, FAR), True)
        self.assert_exact(bar(RICH, TRIO), "total")
        self.assert_exact(bar(RICH, ((0, 1, 2), (1, 1, 1))), 0)
        self.assert_exact(bar(TRIO, TRIO), None)

    def test_just_to_the_states_that_a_search_finds(self):
        for many, coins in SMALL:
            states = all_states(many, coins)
            for one in states[::len(states) // 24 + 1]:
                reached = distances_from(one)
                for other in states:
                    self.assert_exact(leads(one, other), other in reached)
                    self.assertIs(bar(one, other) is None, other in reached)

    def test_the_first_person_whose_residues_differ(self):
        for many, coins in [(2, 1), (2, 4), (3, 2), (4, 1)]:
            states = all_states(many, coins)
            for one in states[::5]:
                for other in states:
                    differ = [x for x in range(many)
                              if model_residues(one)[x] != model_residues(other)[x]]
                    self.assert_exact(bar(one, other), differ[0] if differ else None)

    def test_each_person_may_be_the_first(self):
        for state in full_states():
            many = len(state[0])
            for person in range(many - 1):
                purses = list(state[1])
                purses[person] -= 1
                purses[-1] += 1
                self.assert_exact(bar(state, (state[0], tuple(purses))), person)
                self.assert_exact(leads(state, (state[0], tuple(purses))), False)
            # A round of coins more and one less changes no residue.
            purses = list(state[1])
            purses[0], purses[-1] = purses[0] - many, purses[-1] + many
            self.assert_exact(bar(state, (state[0], tuple(purses))), None)

    def test_another_total_bars_before_any_person(self):
        for state in some_states():
            many = len(state[0])
            for coins in (1, many, 10 ** 40 * many):
                richer = (state[0], (state[1][0] + coins,) + state[1][1:])
                self.assert_exact(bar(state, richer), "total")
                self.assert_exact(bar(richer, state), "total")
                self.assert_exact(leads(state, richer), False)
                self.assert_exact(leads(richer, state), False)

    def test_full_purses(self):
        for seed, state in enumerate(full_states()):
            other = mate(state, seed)
            self.assert_exact(leads(state, other), True)
            self.assert_exact(bar(other, state), None)

    def test_lists_for_tuples_and_names(self):
        self.assert_any_shape(leads, [RICH, FAR], NAMES, True)
        self.assert_any_shape(leads, [RICH, TRIO], NAMES, False)
        self.assert_any_shape(bar, [RICH, FAR], NAMES, None)
        self.assert_any_shape(bar, [RICH, TRIO], NAMES, "total")
        self.assert_any_shape(bar, [RICH, ((0, 1, 2), (2, 1, 0))], NAMES, 1)


class ErrorsTest(Checks, unittest.TestCase):
    def test_other_people_before_any_other_error(self):
        calls = [leads, bar, shifts, crossings, distance, nearer, plan,
                 lambda one, other: is_way(one, other, []),
                 lambda one, other: is_way(one, other, "no row")]
        few = [PAIR, RICH, TRIO] + full_states()
        for state in few:
            many = len(state[0])
            for richer in (0, 1, 10 ** 40):
                other = more_people(state, richer)
                for call in calls:
                    self.assert_raises(OtherPeople, {"many": many + 1}, call, state, other)
                    self.assert_raises(OtherPeople, {"many": many}, call, other, state)
                    self.assert_raises(OtherPeople, {"many": many}, call,
                                       [list(part) for part in other], list(state))

    def test_other_people_by_name(self):
        for function in (leads, bar, shifts, crossings, distance, nearer, plan):
            self.assert_raises(OtherPeople, {"many": 2}, function, one=RICH, other=PAIR)
        self.assert_raises(OtherPeople, {"many": 2}, is_way, one=RICH, other=PAIR, value=[0])

    def test_barred_with_the_reason(self):
        self.assert_raises(Barred, {"reason": "total"}, distance, RICH, TRIO)
        for function in (shifts, crossings, distance, nearer, plan):
            self.assert_raises(Barred, {"reason": "total"}, function, RICH, TRIO)
            self.assert_raises(Barred, {"reason": "total"}, function, one=TRIO, other=RICH)
            self.assert_raises(Barred, {"reason": 0}, function, RICH, ((0, 1, 2), (1, 1, 1)))
            self.assert_raises(Barred, {"reason": 1}, function, RICH, ((0, 1, 2), (2, 1, 0)))
            self.assert_raises(Barred, {"reason": 1}, function, [[0, 1, 2], [2, 0, 1]],
                               [(0, 1, 2), [2, 1, 0]])

    def test_barred_far_away_and_not_too_many(self):
        one = ((0, 1), (10 ** 40, 0))
        self.assert_raises(Barred, {"reason": 0}, plan, one, ((0, 1), (1, 10 ** 40 - 1)))
        self.assert_raises(Barred, {"reason": "total"}, plan, one, ((0, 1), (0, 10 ** 40 - 2)))


class ShiftsTest(Checks, unittest.TestCase):
    def test_example(self):
        self.assert_exact(shifts(RICH, FAR), (2, 0, -2))

    def test_a_state_and_itself(self):
        for state in some_states() + full_states():
            self.assert_exact(shifts(state, state), (0,) * len(state[0]))

    def test_steps_counted_along_rows(self):
        for seed, state in enumerate(some_states(seed=4)):
            row = possible_row(state, 60, seed) if sum(state[1]) else []
            steps, present = [0] * len(state[0]), state
            for seat in row:
                people = people_at(present)
                steps[people[seat]] += 1
                steps[people[(seat + 1) % len(people)]] -= 1
                present = model_exchange(present, seat)
            self.assert_exact(shifts(state, present), tuple(steps))
            self.assert_exact(shifts(present, state), tuple(-step for step in steps))

    def test_full_purses_both_ways(self):
        for seed, state in enumerate(full_states()):
            other = mate(state, seed)
            wanted = tuple(before - after for before, after in zip(state[1], other[1]))
            self.assert_exact(shifts(state, other), wanted)
            self.assert_exact(shifts(other, state), tuple(-step for step in wanted))

    def test_lists_for_tuples_and_names(self):
        self.assert_any_shape(shifts, [RICH, FAR], NAMES, (2, 0, -2))


class DistanceTest(Checks, unittest.TestCase):
    def test_examples(self):
        self.assert_exact(crossings(RICH, FAR), [(0, 1, 1), (0, 2, 1), (1, 2, 1)])
        self.assert_exact(distance(RICH, FAR), 3)
        self.assert_exact(distance(RICH, ((2, 1, 0), (3, 0, 0))), 1)

    def test_as_a_search_through_all_exchanges(self):
        for many, coins in SMALL + [(2, 20), (3, 9), (4, 5)]:
            for lot in all_lots(many, coins)[:20]:
                for one in lot:
                    for other, wanted in distances_from(one).items():
                        self.assert_exact(distance(one, other), wanted)

    def test_crossings_counted_along_shortest_rows(self):
        for many, coins in SMALL:
            for lot in all_lots(many, coins)[::3]:
                for one in lot:
                    away = distances_from(one)
                    for other in lot:
                        wanted = self.crossings_of(other, away)
                        self.assert_exact(crossings(one, other), wanted)
                        self.assert_exact(crossings(other, one), wanted)

    def crossings_of(self, other, away):
        """The pairs that exchange seats on some shortest way back from other."""
        times, present = {}, other
        while away[present]:
            people = people_at(present)
            for seat, person in enumerate(people):
                if present[1][person]:
                    behind = model_exchange(present, seat)
                    if away[behind] < away[present]:
                        both = tuple(sorted([person, people[(seat + 1) % len(people)]]))
                        times[both] = times.get(both, 0) + 1
                        present = behind
                        break
        return [(x, y, many) for (x, y), many in sorted(times.items())]

    def test_a_state_and_itself(self):
        for state in some_states() + full_states():
            self.assert_exact(crossings(state, state), [])
            self.assert_exact(distance(state, state), 0)

    def test_full_purses_both_ways(self):
        for seed, state in enumerate(full_states() + full_states(seed=2, most=10 ** 5)):
            other = mate(state, seed)
            found = crossings(state, other)
            self.assert_exact(crossings(other, state), found)
            self.assertEqual(found, sorted(found))
            self.assertEqual(len({(x, y) for x, y, _ in found}), len(found))
            self.assertTrue(all(x < y and many >= 1 for x, y, many in found))
            self.assert_exact(distance(state, other), sum(many for _, _, many in found))
            self.assert_exact(distance(other, state), distance(state, other))

    def test_crossings_make_up_the_shifts(self):
        # On a shortest way two people cross in one direction only.
        for seed, state in enumerate(full_states(seed=3)):
            steps = shifts(state, mate(state, seed))
            gone = [0] * len(steps)
            for x, y, many in crossings(state, mate(state, seed)):
                ahead, back = (x, y) if steps[x] > steps[y] else (y, x)
                gone[ahead] += many
                gone[back] -= many
            self.assertEqual(tuple(gone), steps)

    def test_known_distances_far_away(self):
        most = MOST_COINS
        for coins in (1, 2, 7, most - 1, most):
            one, other = ((0, 1), (most, 0)), ((0, 1), (most - coins, coins))
            if coins % 2:
                other = ((1, 0), other[1])
            self.assert_exact(crossings(one, other), [(0, 1, coins)])
            self.assert_exact(distance(one, other), coins)
        # One person goes round the table and passes each of the others each time.
        for many in range(3, 13):
            start = tuple(range(many))
            one = (start, (most,) + (0,) * (many - 1))
            rounds = many * 10 ** 40
            other = (start, (most - rounds * (many - 1),) + (rounds,) * (many - 1))
            wanted = [(0, y, rounds) for y in range(1, many)]
            self.assert_exact(crossings(one, other), wanted)
            self.assert_exact(distance(one, other), rounds * (many - 1))

    def test_a_row_is_never_shorter_and_longer_by_an_even_number(self):
        for seed, state in enumerate(some_states(seed=5)):
            row = possible_row(state, 40, seed) if sum(state[1]) else []
            found = distance(state, model_run(state, row))
            self.assertLessEqual(found, len(row))
            self.assertEqual(found % 2, len(row) % 2)

    def test_more_people_than_the_limit(self):
        seats = tuple((7 * k + 3) % 40 for k in range(40))
        state = (seats, (10 ** 50,) * 40)
        row = [k % 40 for k in range(39)]
        self.assert_exact(distance(state, model_run(state, row)), 39)
        self.assert_exact(distance(state, mate(state, 1)), distance(mate(state, 1), state))

    def test_lists_for_tuples_and_names(self):
        wanted = [(0, 1, 1), (0, 2, 1), (1, 2, 1)]
        self.assert_any_shape(crossings, [RICH, FAR], NAMES, wanted)
        self.assert_any_shape(crossings, [RICH, RICH], NAMES, [])
        self.assert_any_shape(distance, [RICH, FAR], NAMES, 3)

    def test_the_returned_list_belongs_to_the_caller(self):
        first = crossings(RICH, FAR)
        first[0] = None
        first.clear()
        self.assert_exact(crossings(RICH, FAR), [(0, 1, 1), (0, 2, 1), (1, 2, 1)])
        crossings(RICH, RICH).append(1)
        self.assert_exact(crossings(RICH, RICH), [])


if __name__ == "__main__":
    unittest.main()
