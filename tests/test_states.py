import copy
import itertools
import unittest

from tollround.states import is_state, residues, sitting, state_of, total
from tests.samples import (
    Checks, MOST_COINS, PAIR, RICH, TRIO, people_at, shapes, some_states,
)

WRONG = [
    # no pair of two tuples at all
    None, True, False, 0, 1, -1, MOST_COINS, "", "((0, 1), (1, 0))", (), [], "01", ("01", "10"),
    ("01", (1, 0)), ((0, 1), "10"), (None, None), ((0, 1), None), (None, (1, 0)), (0, 1),
    ((0, 1), 1), (0, (1, 0)), (True, False), ((), None),
    # more or fewer than two items
    ((0, 1),), ((0, 1), (1, 0), ()), ((0, 1), (1, 0), (1, 0)), ((0, 1), (1, 0), None),
    (((0, 1), (1, 0)),), (((0, 1), (1, 0)), ((0, 1), (1, 0))),
    # no person, one person
    ((), ()), ((0,), (0,)), ((0,), (1,)), ((1,), (0,)), ((), (1,)), ((0,), ()),
    # seats that are there twice, that are missing or not at the table
    ((0, 0), (1, 0)), ((1, 1), (1, 0)), ((1, 2), (1, 0)), ((0, 2), (1, 0)), ((-1, 0), (1, 0)),
    ((0, -1), (1, 0)), ((0, 1, 1), (1, 0, 0)), ((0, 2, 2), (1, 0, 0)), ((1, 2, 3), (1, 0, 0)),
    ((0, 1, 3), (1, 0, 0)), ((0, 1, MOST_COINS), (1, 0, 0)), ((0, 0, 3, 3), (0, 0, 0, 0)),
    ((-2, -1), (1, 0)), ((0, 1, -1), (1, 0, 0)), ((1, 1, 1, 3), (0, 0, 0, 0)),
    # negative purses
    ((0, 1), (-1, 0)), ((0, 1), (1, -1)), ((0, 1), (0, -MOST_COINS)), ((0, 1, 2), (1, 1, -1)),
    # purses of another length than the seats
    ((0, 1), (1,)), ((0, 1), ()), ((0, 1), (1, 0, 0)), ((0, 1, 2), (1, 0)), ((), (1, 0)),
    # booleans, strings, None and nested values in the place of integers
    ((False, True), (1, 0)), ((0, True), (1, 0)), ((False, 1), (1, 0)), ((0, 1), (True, 0)),
    ((0, 1), (1, False)), ((0, 1), (True, False)), (("0", "1"), (1, 0)), ((0, "1"), (1, 0)),
    ((0, 1), ("1", "0")), ((0, 1), (1, "")), ((0, None), (1, 0)), ((0, 1), (1, None)),
    ((None, None), (1, 0)), ((0, (1,)), (1, 0)), (((0,), (1,)), (1, 0)), ((0, 1), (1, (0,))),
    ((0, 1), (1, ())), ((0, []), (1, 0)), ((0, 1), ([], 0)), ((0, 1), (1, [0])),
    ((((((((0,),),),),),), 1), (1, 0)), (((0, 1), (1, 0)), (1, 0)), ((0, 1), ((0, 1), (1, 0))),
    (tuple(range(1000)), (0,) * 999), (tuple(range(999)) + (998,), (0,) * 1000),
    ["0:1", "1:0"], [[[[[[[[]]]]]]]], "0:1 1:0",
]


class IsStateTest(Checks, unittest.TestCase):
    def test_examples(self):
        self.assertIs(is_state(((0, 1), (1, 0))), True)
        self.assertIs(is_state(((0, 0), (1, 0))), False)
        self.assertIs(is_state(((0,), (1,))), False)

    def test_states_of_two_to_twelve_people(self):
        for state in some_states() + [PAIR, TRIO, RICH]:
            self.assertIs(is_state(state), True, state)

    def test_all_seatings_of_a_few_people(self):
        for many in (2, 3, 4, 5):
            for seats in itertools.product(range(-1, many + 1), repeat=many):
                wanted = len(set(seats)) == many and min(seats) == 0 and max(seats) == many - 1
                self.assertIs(is_state((seats, (0,) * many)), wanted, seats)

    def test_more_people_and_more_coins_than_the_limits(self):
        self.assertIs(is_state((tuple(range(13)), (1,) * 13)), True)
        self.assertIs(is_state((tuple(reversed(range(5000))), tuple(range(5000)))), True)
        self.assertIs(is_state(((1, 0), (MOST_COINS ** 3, 10 ** 5000))), True)

    def test_wrong_values(self):
        for value in WRONG:
            self.assertIs(is_state(value), False, value)

    def test_a_list_in_the_place_of_a_tuple(self):
        for state in (PAIR, TRIO, RICH):
            for value in shapes(state):
                wanted = all(isinstance(part, tuple) for part in (value, *value))
                self.assertIs(is_state(value), wanted, value)

    def test_by_name(self):
        self.assertIs(is_state(value=PAIR), True)
        self.assertIs(is_state(value=[PAIR]), False)

    def test_the_value_stays_as_it_is(self):
        for value in WRONG + shapes(RICH):
            before = copy.deepcopy(value)
            is_state(value)
            self.assert_exact(value, before)


class SittingTest(Checks, unittest.TestCase):
    def test_examples(self):
        self.assert_exact(sitting(((2, 0, 1), (0, 1, 2))), (1, 2, 0))
        self.assert_exact(state_of((1, 2, 0), (0, 1, 2)), ((2, 0, 1), (0, 1, 2)))

    def test_people_in_the_order_of_their_seats(self):
        for state in some_states():
            self.assert_exact(sitting(state), tuple(people_at(state)))

    def test_state_of_is_the_way_back(self):
        for state in some_states():
            self.assert_exact(state_of(sitting(state), state[1]), state)

    def test_all_seatings_of_a_few_people(self):
        for many in (2, 3, 4, 5):
            purses = tuple(range(many))
            for people in itertools.permutations(range(many)):
                state = state_of(people, purses)
                self.assert_exact(sitting(state), people)
                self.assert_exact(state[1], purses)
                for seat, person in enumerate(people):
                    self.assertEqual(state[0][person], seat)

    def test_lists_for_tuples_and_names(self):
        state = ((2, 0, 1), (0, 1, 2))
        self.assert_any_shape(sitting, [state], ["state"], (1, 2, 0))
        self.assert_any_shape(state_of, [(1, 2, 0), (0, 1, 2)], ["sitting", "purses"], state)

    def test_changing_an_argument_later_changes_no_result(self):
        people, purses = [1, 0], [3, 4]
        state = state_of(people, purses)
        people[0], purses[0] = 0, 9
        self.assert_exact(state, ((1, 0), (3, 4)))

    def test_more_people_than_the_limit(self):
        seats = tuple((7 * k + 3) % 40 for k in range(40))
        state = (seats, tuple(range(40)))
        self.assert_exact(sitting(state), tuple(people_at(state)))
        self.assert_exact(state_of(sitting(state), state[1]), state)


class TotalTest(Checks, unittest.TestCase):
    def test_examples(self):
        self.assert_exact(total(RICH), 3)
        self.assert_exact(residues(RICH), (2, 1, 0))

    def test_total_of_all_purses(self):
        self.assert_exact(total(((1, 0), (0, 0))), 0)
        self.assert_exact(total(PAIR), 1)
        self.assert_exact(total((tuple(range(12)), (MOST_COINS,) * 12)), 12 * MOST_COINS)
        self.assert_exact(total(((2, 0, 1), (5, MOST_COINS, 7))), MOST_COINS + 12)

    def test_residues_modulo_the_number_of_people(self):
        self.assert_exact(residues(((1, 0), (1, 0))), (0, 0))
        self.assert_exact(residues(((2, 0, 1), (1, 3, 7))), (0, 0, 2))
        self.assert_exact(residues(((0, 1), (MOST_COINS, MOST_COINS))), (0, 1))
        self.assert_exact(residues(((0, 1, 2), (MOST_COINS,) * 3)), (1, 2, 0))
        for state in some_states():
            many = len(state[0])
            wanted = tuple(divmod(state[0][x] + state[1][x], many)[1] for x in range(many))
            self.assert_exact(residues(state), wanted)

    def test_lists_for_tuples_and_names(self):
        self.assert_any_shape(total, [RICH], ["state"], 3)
        self.assert_any_shape(residues, [RICH], ["state"], (2, 1, 0))


if __name__ == "__main__":
    unittest.main()
