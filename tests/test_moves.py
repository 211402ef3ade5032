import copy
import unittest

from tollround.errors import Empty, NoSeat
from tollround.moves import exchanged, exchanges, run, states_along
from tollround.states import is_state, residues, sitting, state_of, total
from tests.samples import (
    Checks, MOST_COINS, PAIR, RICH, TRIO, model_exchange, people_at, possible_row, some_states,
)


def beyond(many):
    """Seats that a table of so many people does not have."""
    return [-1, -2, -many, -many - 1, many, many + 1, 2 * many, 10 ** 60, -10 ** 60, 10 ** 5000]


class ExchangesTest(Checks, unittest.TestCase):
    def test_examples(self):
        self.assert_exact(exchanges(RICH), [0, 2])
        self.assert_exact(exchanges(TRIO), [0])
        self.assert_exact(exchanges(PAIR), [0])

    def test_seats_not_people(self):
        self.assert_exact(exchanges(((2, 0, 1), (1, 0, 0))), [2])
        self.assert_exact(exchanges(((1, 0), (1, 0))), [1])
        self.assert_exact(exchanges(((2, 1, 0), (4, 0, 5))), [0, 2])

    def test_empty_purses(self):
        for many in range(2, 13):
            seats = tuple(reversed(range(many)))
            self.assert_exact(exchanges((seats, (0,) * many)), [])
            self.assert_exact(exchanges((seats, (MOST_COINS,) * many)), list(range(many)))

    def test_just_where_the_person_has_a_coin(self):
        for state in some_states():
            wanted = [seat for seat, person in enumerate(people_at(state)) if state[1][person]]
            self.assert_exact(exchanges(state), wanted)

    def test_lists_for_tuples_and_names(self):
        self.assert_any_shape(exchanges, [RICH], ["state"], [0, 2])

    def test_the_returned_list_belongs_to_the_caller(self):
        first = exchanges(RICH)
        first.clear()
        self.assert_exact(exchanges(RICH), [0, 2])


class ExchangedTest(Checks, unittest.TestCase):
    def test_examples(self):
        self.assert_exact(exchanged(RICH, 0), ((1, 0, 2), (1, 1, 1)))
        self.assert_exact(exchanged(RICH, 2), ((2, 1, 0), (3, 0, 0)))
        self.assert_exact(exchanged(PAIR, 0), ((1, 0), (0, 1)))
        self.assert_raises(Empty, {"person": 1}, exchanged, RICH, 1)

    def test_every_seat_of_many_states(self):
        for state in some_states():
            for seat, person in enumerate(people_at(state)):
                if state[1][person]:
                    self.assert_exact(exchanged(state, seat), model_exchange(state, seat))
                else:
                    self.assert_raises(Empty, {"person": person}, exchanged, state, seat)

    def test_the_last_seat_is_beside_seat_0(self):
        state = ((3, 1, 2, 0), (5, 6, 7, 8))
        self.assert_exact(exchanged(state, 3), ((0, 1, 2, 3), (4, 6, 7, 9)))

    def test_two_people_have_two_exchanges(self):
        state = ((0, 1), (5, 7))
        self.assert_exact(exchanged(state, 0), ((1, 0), (4, 8)))
        self.assert_exact(exchanged(state, 1), ((1, 0), (6, 6)))
        self.assert_exact(exchanged(((1, 0), (1, 0)), 1), ((0, 1), (0, 1)))
        self.assert_raises(Empty, {"person": 1}, exchanged, PAIR, 1)
        self.assert_raises(Empty, {"person": 1}, exchanged, ((1, 0), (1, 0)), 0)

    def test_seats_that_are_not_there(self):
        for state in some_states():
            for seat in beyond(len(state[0])):
                self.assert_raises(NoSeat, {"seat": seat}, exchanged, state, seat)

    def test_empty_tells_the_person_not_the_seat(self):
        self.assert_raises(Empty, {"person": 2}, exchanged, ((1, 2, 0), (1, 1, 0)), 0)
        self.assert_raises(Empty, {"person": 0}, exchanged, ((2, 0, 1), (0, 0, 0)), 2)

    def test_the_same_seat_takes_it_back(self):
        for state in some_states():
            for seat in exchanges(state):
                after = exchanged(state, seat)
                self.assertIn(seat, exchanges(after))
                self.assert_exact(exchanged(after, seat), state)

    def test_total_and_residues_stay(self):
        for state in some_states():
            for seat in exchanges(state):
                after = exchanged(state, seat)
                self.assertIs(is_state(after), True)
                self.assertEqual(total(after), total(state))
                self.assertEqual(residues(after), residues(state))

    def test_lists_for_tuples_and_names(self):
        names = ["state", "seat"]
        self.assert_any_shape(exchanged, [RICH, 2], names, ((2, 1, 0), (3, 0, 0)))
        before = [[0, 1, 2], (2, 0, 1)]
        state = copy.deepcopy(before)
        self.assert_raises(Empty, {"person": 1}, exchanged, seat=1, state=state)
        self.assert_raises(NoSeat, {"seat": 3}, exchanged, seat=3, state=state)
        self.assert_exact(state, before)


class RunTest(Checks, unittest.TestCase):
    def assert_both_raise(self, error, wanted, state, row):
        self.assert_raises(error, wanted, run, state, row)
        self.assert_raises(error, wanted, states_along, state, row)

    def test_examples(self):
        self.assert_exact(run(RICH, [0, 1, 0]), ((2, 1, 0), (0, 0, 3)))
        wanted = [((0, 1), (1, 0)), ((1, 0), (0, 1)), ((0, 1), (1, 0))]
        self.assert_exact(states_along(PAIR, [0, 0]), wanted)

    def test_the_empty_row(self):
        for state in some_states():
            self.assert_exact(run(state, []), state)
            self.assert_exact(states_along(state, []), [state])

    def test_rows_of_up_to_200_exchanges(self):
        for seed, state in enumerate(some_states()):
            if total(state) == 0:
                continue
            row = possible_row(state, 200, seed)
            wanted = [state]
            for seat in row:
                wanted.append(model_exchange(wanted[-1], seat))
            self.assert_exact(states_along(state, row), wanted)
            for length in (1, 2, 3, 50, 199, 200):
                self.assert_exact(run(state, row[:length]), wanted[length])
                self.assert_exact(states_along(state, row[:length]), wanted[:length + 1])

    def test_a_row_and_its_way_back(self):
        for seed, state in enumerate(some_states(seed=2)):
            row = possible_row(state, 100, seed) if total(state) else []
            self.assert_exact(run(state, row + row[::-1]), state)

    def test_the_first_exchange_fails(self):
        self.assert_both_raise(Empty, {"person": 1}, RICH, [1, 0, 2])
        self.assert_both_raise(NoSeat, {"seat": 3}, RICH, [3, 1])
        self.assert_both_raise(NoSeat, {"seat": -1}, RICH, [-1])
        self.assert_both_raise(Empty, {"person": 1}, RICH, [1, 3])

    def test_the_last_exchange_fails(self):
        self.assert_both_raise(Empty, {"person": 2}, RICH, [0, 2, 2, 0, 2, 0, 0])
        self.assert_both_raise(NoSeat, {"seat": 3}, RICH, [0, 1, 0, 3])
        for seed, state in enumerate(some_states(seed=3)):
            row = possible_row(state, 30, seed) if total(state) else []
            last = run(state, row)
            for seat in beyond(len(state[0])):
                self.assert_both_raise(NoSeat, {"seat": seat}, state, row + [seat])
            for seat, person in enumerate(sitting(last)):
                if not last[1][person]:
                    self.assert_both_raise(Empty, {"person": person}, state, row + [seat])

    def test_the_first_of_several_failures_counts(self):
        self.assert_both_raise(Empty, {"person": 0}, PAIR, [0, 1, 0, 1, 1, 9, -4])
        self.assert_both_raise(NoSeat, {"seat": 9}, PAIR, [0, 0, 9, 1, -4])
        self.assert_both_raise(Empty, {"person": 0}, ((0, 1), (0, 0)), [0, 2])

    def test_lists_for_tuples_and_names(self):
        names = ["state", "row"]
        along = [PAIR, ((1, 0), (0, 1)), PAIR]
        self.assert_any_shape(run, [RICH, [0, 1, 0]], names, ((2, 1, 0), (0, 0, 3)))
        self.assert_any_shape(run, [RICH, []], names, RICH)
        self.assert_any_shape(states_along, [PAIR, [0, 0]], names, along)
        self.assert_any_shape(states_along, [PAIR, []], names, [PAIR])

    def test_arguments_stay_when_an_exchange_fails(self):
        state, row = [[0, 1], [1, 0]], [0, 0, 1]
        self.assert_both_raise(Empty, {"person": 1}, state, row)
        self.assert_exact([state, row], [[[0, 1], [1, 0]], [0, 0, 1]])

    def test_the_returned_list_belongs_to_the_caller(self):
        wanted = [PAIR, ((1, 0), (0, 1))]
        first = states_along(PAIR, [0])
        first.append(None)
        first[0] = 7
        self.assert_exact(states_along(PAIR, [0]), wanted)

    def test_changing_an_argument_later_changes_no_result(self):
        state = [[0, 1], [1, 0]]
        found, along = run(state, []), states_along(state, [0])
        state[0][0], state[1][0] = 5, 5
        self.assert_exact(found, PAIR)
        self.assert_exact(along, [PAIR, ((1, 0), (0, 1))])

    def test_beyond_the_limits(self):
        people = tuple((7 * k + 3) % 40 for k in range(40))
        state = state_of(people, (10 ** 50,) * 40)
        row = [k % 40 for k in range(1000)]
        wanted = state
        for seat in row:
            wanted = model_exchange(wanted, seat)
        self.assert_exact(run(state, row), wanted)
        self.assert_exact(states_along(state, row)[-1], wanted)


if __name__ == "__main__":
    unittest.main()
