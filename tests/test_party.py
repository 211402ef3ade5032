"""The deeds of a Party one by one, undo, and queries."""

import random
import unittest

from tollround.counting import lot_many
from tollround.errors import (
    Barred, Empty, Few, Full, NoDeed, NoPerson, NoSeat, OtherPeople, Stops,
)
from tollround.leading import distance
from tollround.moves import exchanges
from tollround.passes import after_passes
from tollround.party import Party
from tests.deed_model import ERRORS, model_deed, some_deed
from tests.samples import (
    Checks, MOST_COINS, PAIR, RICH, TRIO, full_states, mate, shapes, some_states,
)

FAR = ((2, 1, 0), (0, 0, 3))


class PartyChecks(Checks):
    """Checks of parties to mix into a unittest.TestCase."""

    def assert_party(self, party, states, log=()):
        """The Party went through these STATEs, and answers as a new one in the last of them."""
        state = states[-1]
        self.assert_exact(party.state(), state)
        self.assert_exact(party.deeds(), len(states) - 1)
        self.assert_exact(party.log(), list(log))
        self.assert_exact(party.exchanges(), exchanges(state))
        self.assert_exact(party.lot(), lot_many(state))
        self.assert_exact(len(party), len(state[0]))
        self.assert_exact(repr(party), f"Party({len(state[0])} people, {sum(state[1])} coins)")
        self.assertTrue(party == Party(state))

    def assert_fails(self, party, error, wanted, name, *args):
        """The deed raises this error and changes nothing."""
        before = [party.state(), party.deeds(), party.log()]
        self.assert_raises(error, wanted, getattr(party, name), *args)
        self.assert_exact([party.state(), party.deeds(), party.log()], before)


class ExamplesTest(PartyChecks, unittest.TestCase):
    def test_deeds(self):
        self.assert_exact([Party(RICH).exchange(2), Party(RICH).run([0, 1, 0])], [2, 3])
        self.assert_exact([Party(RICH).again([0, 2], 1), Party(RICH).go(FAR)], [(1, 2, 0), 3])
        self.assert_exact([Party(RICH).give(1, 5), Party(RICH).take(0, 2)], [5, 0])
        self.assert_fails(Party(RICH), Empty, {"person": 0}, "take", 0, 3)
        self.assert_exact([Party(RICH).come(4), Party(RICH).leave(0)], [4, 2])
        self.assert_fails(Party(PAIR), Few, {}, "leave", 1)

    def test_queries(self):
        self.assert_exact(repr(Party(RICH)), "Party(3 people, 3 coins)")
        self.assert_exact(len(Party(RICH)), 3)
        self.assertIs(Party(PAIR) == Party([[0, 1], [1, 0]]), True)


class DeedsTest(PartyChecks, unittest.TestCase):
    def check_deed(self, state, deed, shaped=None):
        """The deed in a new Party as in the model; returns what it does."""
        party = Party(state)
        name, *args = shaped or deed
        try:
            result, after = model_deed(state, deed)
        except ERRORS as error:
            self.assert_fails(party, type(error), vars(error), name, *args)
            self.assert_party(party, [state])
            return type(error)
        self.assert_exact(getattr(party, name)(*args), result)
        self.assert_party(party, [state, after])
        self.assert_exact(party.undo(), True)
        self.assert_party(party, [state])
        return after

    def test_exchange(self):
        for state in some_states() + full_states() + [PAIR, TRIO, RICH]:
            for seat in range(-3, len(state[0]) + 3):
                self.check_deed(state, ("exchange", seat))
        for seat in (-1, 3, 10 ** 60, -10 ** 60):
            self.assert_fails(Party(RICH), NoSeat, {"seat": seat}, "exchange", seat)
        self.assert_fails(Party(RICH), Empty, {"person": 1}, "exchange", 1)

    def test_run(self):
        chance = random.Random(1)
        for state in some_states() + full_states() + [PAIR, TRIO, RICH]:
            many = len(state[0])
            for length in (0, 1, 2, 5, 200):
                self.check_deed(state, ("run", [chance.randrange(many) for _ in range(length)]))
            self.check_deed(state, ("run", [0, 0, many, 0]))
            self.check_deed(state, ("run", [-1]))
        # The first exchange that fails decides.
        self.assert_fails(Party(RICH), NoSeat, {"seat": 5}, "run", [0, 5, 2, 2, 2])
        self.assert_fails(Party(RICH), Empty, {"person": 1}, "run", [1, 5])
        self.assert_fails(Party(RICH), NoSeat, {"seat": -1}, "run", [-1, 1])

    def test_run_is_one_deed(self):
        party = Party(RICH)
        self.assert_exact(party.run([0, 1, 0, 0, 1]), 5)
        self.assert_exact(party.deeds(), 1)
        self.assert_exact([party.undo(), party.undo()], [True, False])
        self.assert_party(party, [RICH])

    def test_again(self):
        chance = random.Random(2)
        for at, state in enumerate(some_states() + full_states() + [PAIR, TRIO, RICH] * 20):
            row = [chance.randrange(len(state[0])) for _ in range(at % 7)]
            for many in (0, 1, 2, 5):
                self.check_deed(state, ("again", row, many))
        for many in (1, 10 ** 60):
            self.assert_fails(Party(RICH), Stops, {"many": 0}, "again", [1], many)
        self.assert_fails(Party(RICH), Stops, {"many": 1}, "again", [0, 2], 2)

    def test_again_with_great_purses_and_many_passes(self):
        state = ((0, 1, 2), (3 * 10 ** 40 + 2, 7, 0))
        self.check_deed(state, ("again", [0, 0, 1, 1], 0))
        party = Party(state)
        self.assert_exact(party.again([0, 1, 2], 10 ** 40)[0], 2)
        self.assert_exact(party.state(), after_passes(state, [0, 1, 2], 10 ** 40))
        self.assert_exact(party.deeds(), 1)
        self.assert_fails(party, Stops, {"many": 0}, "again", [0, 1, 2], 1)
        self.assert_exact(party.undo(), True)
        self.assert_fails(party, Stops, {"many": 10 ** 40}, "again", [0, 1, 2], 10 ** 40 + 1)
        for many in (0, 1, 10 ** 60):
            for row in ([], [0, 0], [0, 0, 0, 0]):
                self.assert_exact(party.again(row, many), state[1])
        self.assert_party(party, [state] * 10)

    def test_go_there_and_back(self):
        for seed, state in enumerate(full_states()):
            other = mate(state, seed)
            self.check_deed(state, ("go", other))
            party = Party(state)
            there = party.go(other)
            self.assert_exact(there, distance(state, other))
            self.assert_exact(party.go(state), there)
            self.assert_exact(party.go(state), 0)
            self.assert_party(party, [state, other, state, state])

    def test_go_where_it_is_barred(self):
        for goal, error, wanted in [
                (PAIR, OtherPeople, {"many": 2}), (TRIO, Barred, {"reason": "total"}),
                (((0, 1, 2), (1, 1, 1)), Barred, {"reason": 0}),
                (((0, 1, 2), (2, 1, 0)), Barred, {"reason": 1}),
                (((0, 1, 2, 3), (2, 0, 1, 0)), OtherPeople, {"many": 4})]:
            self.assert_fails(Party(RICH), error, wanted, "go", goal)
            self.check_deed(RICH, ("go", goal))

    def test_give_and_take(self):
        for state in some_states() + full_states() + [PAIR, TRIO, RICH]:
            many = len(state[0])
            for person in [*range(many), -1, -many, many, 10 ** 60]:
                for coins in (0, 1, 5, 10 ** 42):
                    self.check_deed(state, ("give", person, coins))
                    self.check_deed(state, ("take", person, coins))
                if person in range(many):
                    self.check_deed(state, ("take", person, state[1][person]))
                    self.check_deed(state, ("take", person, state[1][person] + 1))

    def test_nobody_has_this_number(self):
        for name, more in [("give", [0]), ("give", [4]), ("take", [0]), ("take", [10 ** 50]),
                           ("leave", [])]:
            for state in (PAIR, RICH):
                for person in (-1, len(state[0]), 10 ** 60, -10 ** 60):
                    # Before Empty and before Few.
                    self.assert_fails(Party(state), NoPerson, {"person": person}, name, person, *more)

    def test_come_up_to_twelve_people(self):
        party, states = Party(PAIR), [PAIR]
        for many in range(3, 13):
            self.assert_exact(party.come(many * 10 ** 40), many)
            seats, purses = states[-1]
            states.append((seats + (many - 1,), purses + (many * 10 ** 40,)))
            self.assert_party(party, states)
        for coins in (0, 1, 10 ** 42):
            self.assert_fails(party, Full, {"many": 12}, "come", coins)
        self.assert_party(party, states)

    def test_come_where_there_are_more_than_twelve(self):
        for many in (12, 13, 14, 40):
            state = (tuple(reversed(range(many))), (1,) * many)
            self.assert_fails(Party(state), Full, {"many": 12}, "come", 0)
            party = Party(state)
            while len(party) > 12:
                self.assert_fails(party, Full, {"many": 12}, "come", 3)
                self.assert_exact(party.leave(0), 1)
            self.assert_exact(party.leave(11), 1)
            self.assert_exact([party.come(3), party.deeds()], [12, many - 10])

    def test_the_seat_of_who_comes_is_behind_the_last_one(self):
        party = Party(((1, 0), (5, 0)))
        party.come(7)
        self.assert_exact(party.state(), ((1, 0, 2), (5, 0, 7)))
        self.assert_exact(party.exchange(2), 2)
        self.assert_exact(party.state(), ((1, 2, 0), (5, 1, 6)))

    def test_leave(self):
        for state in some_states() + full_states() + [PAIR, TRIO, RICH]:
            for person in range(-1, len(state[0]) + 1):
                self.check_deed(state, ("leave", person))
        party = Party(((2, 0, 3, 1), (5, 6, 7, 8)))
        self.assert_exact(party.leave(1), 6)
        self.assert_exact(party.state(), ((1, 2, 0), (5, 7, 8)))
        self.assert_exact(party.leave(1), 7)
        self.assert_exact(party.state(), ((1, 0), (5, 8)))
        for person in (0, 1):
            self.assert_fails(party, Few, {}, "leave", person)

    def test_arguments_of_all_shapes_and_by_name(self):
        for row in shapes([0, 2]):
            self.check_deed(RICH, ("run", [0, 2]), ("run", row))
            self.check_deed(RICH, ("again", [0, 2], 1), ("again", row, 1))
        for goal in shapes(FAR):
            self.check_deed(RICH, ("go", FAR), ("go", goal))
        for state in shapes(RICH):
            self.assert_party(Party(state), [RICH])
            self.assert_party(Party(state=state), [RICH])
        self.assert_exact(Party(RICH).exchange(seat=2), 2)
        self.assert_exact(Party(RICH).run(row=(0, 1, 0)), 3)
        self.assert_exact(Party(RICH).again(many=1, row=(0, 2)), (1, 2, 0))
        self.assert_exact(Party(RICH).go(goal=FAR), 3)
        self.assert_exact(Party(RICH).give(coins=5, person=1), 5)
        self.assert_exact(Party(RICH).take(coins=2, person=0), 0)
        self.assert_exact(Party(RICH).come(coins=4), 4)
        self.assert_exact(Party(RICH).leave(person=0), 2)

    def test_arguments_that_the_caller_changes_later(self):
        state, goal, row = [[0, 1, 2], [2, 0, 1]], [[2, 1, 0], [0, 0, 3]], [0, 2]
        party = Party(state)
        state[0].reverse()
        state[1][0] = 99
        self.assert_party(party, [RICH])
        party.go(goal)
        goal[1][2] = 5
        del goal[0][0]
        self.assert_party(party, [RICH, FAR])
        party.undo()
        party.run(row)
        after = party.state()
        row.clear()
        self.assert_party(party, [RICH, after])

    def test_arguments_stay_as_they_are(self):
        state, goal, row = [[0, 1, 2], [2, 0, 1]], [[2, 1, 0], [0, 0, 3]], [0, 2]
        party = Party(state)
        party.run(row)
        party.undo()
        party.again(row, 1)
        party.undo()
        party.go(goal)
        party.give(0, 5)
        party.come(3)
        party.leave(1)
        self.assert_exact([state, goal, row], [[[0, 1, 2], [2, 0, 1]], [[2, 1, 0], [0, 0, 3]], [0, 2]])


class UndoTest(PartyChecks, unittest.TestCase):
    def test_back_to_the_beginning(self):
        party, states = Party(RICH), [RICH]
        for seed in range(200):
            deed = some_deed(states[-1], seed)
            try:
                result, after = model_deed(states[-1], deed)
            except ERRORS as error:
                self.assert_fails(party, type(error), vars(error), *deed)
            else:
                self.assert_exact(getattr(party, deed[0])(*deed[1:]), result)
                states.append(after)
            self.assert_party(party, states)
        self.assertGreater(len(states), 100)
        while len(states) > 1:
            self.assert_exact(party.undo(), True)
            states.pop()
            self.assert_party(party, states)
        for _ in range(3):
            self.assert_exact(party.undo(), False)
            self.assert_party(party, [RICH])

    def test_deeds_and_undos_mixed(self):
        for start, seed in [(PAIR, 1), (RICH, 2), (full_states()[4], 3), (full_states()[10], 4)]:
            chance, party, states = random.Random(seed), Party(start), [start]
            for at in range(120):
                if chance.random() < 0.35:
                    self.assert_exact(party.undo(), len(states) > 1)
                    states = states[:-1] if len(states) > 1 else states
                else:
                    deed = some_deed(states[-1], 1000 * seed + at)
                    try:
                        result, after = model_deed(states[-1], deed)
                    except ERRORS as error:
                        self.assert_fails(party, type(error), vars(error), *deed)
                    else:
                        self.assert_exact(getattr(party, deed[0])(*deed[1:]), result)
                        states.append(after)
                self.assert_party(party, states)

    def test_deeds_that_change_nothing_can_be_undone_too(self):
        party = Party(RICH)
        self.assert_exact([party.run([]), party.again([0], 0), party.again([], 5)],
                          [0, (2, 0, 1), (2, 0, 1)])
        self.assert_exact([party.go(RICH), party.give(1, 0), party.take(2, 0)], [0, 0, 1])
        self.assert_party(party, [RICH] * 7)
        self.assert_exact([party.undo() for _ in range(7)], [True] * 6 + [False])
        self.assert_party(party, [RICH])

    def test_a_deed_that_raised_is_not_undone(self):
        party = Party(RICH)
        party.give(0, 1)
        self.assert_fails(party, Empty, {"person": 1}, "exchange", 1)
        self.assert_exact(party.undo(), True)
        self.assert_party(party, [RICH])
        self.assert_fails(party, NoPerson, {"person": 7}, "give", 7, 1)
        self.assert_exact(party.undo(), False)


class AsOfTest(PartyChecks, unittest.TestCase):
    def party(self):
        """A Party after ten deeds, some of them of a do, and its STATEs."""
        party, states = Party(RICH), [RICH]
        for deed in [("exchange", 0), ("give", 1, 10 ** 40), ("come", 3), ("exchange", 1),
                     ("leave", 0), ("run", []), ("take", 0, 5)]:
            getattr(party, deed[0])(*deed[1:])
            states.append(model_deed(states[-1], deed)[1])
        deeds = [("give", 2, 1), ("exchange", 0), ("come", 1)]
        party.do(deeds)
        for deed in deeds:
            states.append(model_deed(states[-1], deed)[1])
        self.log = [("in", 3), "give", "exchange", "come", ("out", 3)]
        self.assert_party(party, states, self.log)
        return party, states

    def test_each_number(self):
        party, states = self.party()
        for many in range(len(states)):
            found = party.as_of(many)
            self.assertIs(type(found), Party)
            self.assert_party(found, states[:many + 1])
            self.assert_party(party.as_of(many=many), states[:many + 1])
        self.assert_party(party, states, self.log)

    def test_undo_in_the_new_party(self):
        party, states = self.party()
        for many in range(len(states)):
            found = party.as_of(many)
            for left in range(many, 0, -1):
                self.assert_exact(found.undo(), True)
                self.assert_party(found, states[:left])
            self.assert_exact(found.undo(), False)
        self.assert_party(party, states, self.log)

    def test_numbers_that_are_not_there(self):
        party, states = self.party()
        for many in (-1, -2, -len(states), len(states), len(states) + 1, 10 ** 60, -10 ** 60,
                     10 ** 5000):
            self.assert_fails(party, NoDeed, {"many": many}, "as_of", many)
        self.assert_fails(Party(RICH), NoDeed, {"many": 1}, "as_of", 1)
        self.assert_party(Party(RICH).as_of(0), [RICH])
        party.undo()
        self.assert_fails(party, NoDeed, {"many": len(states) - 1}, "as_of", len(states) - 1)

    def test_both_go_on_by_themselves(self):
        for made in (lambda party: party.twin(), lambda party: party.as_of(party.deeds())):
            party, states = self.party()
            found = made(party)
            self.assertIsNot(found, party)
            self.assertTrue(found == party)
            found.give(0, 7)
            found.do([("take", 0, 1)])
            self.assert_party(party, states, self.log)
            party.undo()
            party.undo()
            self.assert_party(party, states[:-2], self.log)
            after = [model_deed(states[-1], ("give", 0, 7))[1], model_deed(states[-1], ("give", 0, 6))[1]]
            self.assert_party(found, states + after, [("in", 1), "take", ("out", 1)])
            party.do([])
            self.assert_party(found, states + after, [("in", 1), "take", ("out", 1)])

    def test_twin(self):
        party, states = self.party()
        self.assert_party(party.twin(), states)
        self.assert_party(party.twin().twin(), states)
        self.assert_party(Party(PAIR).twin(), [PAIR])


class QueriesTest(PartyChecks, unittest.TestCase):
    def test_new_parties(self):
        for state in some_states() + full_states() + [PAIR, TRIO, RICH]:
            self.assert_party(Party(state), [state])
        many = 40
        state = (tuple(reversed(range(many))), (10 ** 42,) * many)
        self.assert_party(Party(state), [state])

    def test_a_party_equals_a_party_with_the_same_state_and_nothing_else(self):
        party = Party(RICH)
        other = Party([[1, 0, 2], [1, 1, 1]])
        self.assertIs(party == other, False)
        self.assertIs(party != other, True)
        other.exchange(0)
        # Whatever happened before, and whatever the log says.
        self.assertIs(party == other, True)
        self.assertIs(party != other, False)
        other.do([])
        self.assertIs(other == party, True)
        for state in [TRIO, PAIR, ((0, 2, 1), (2, 0, 1)), ((0, 1, 2), (2, 1, 0))]:
            self.assertIs(party == Party(state), False)
            self.assertIs(Party(state) != party, True)
        for thing in (RICH, [[0, 1, 2], [2, 0, 1]], repr(party), 3, None, True, "", (), object()):
            self.assertIs(party == thing, False)
            self.assertIs(thing == party, False)
            self.assertIs(party != thing, True)

    def test_repr(self):
        for state, wanted in [
                (((0, 1), (1, 0)), "Party(2 people, 1 coins)"),
                (((0, 1), (0, 0)), "Party(2 people, 0 coins)"),
                (RICH, "Party(3 people, 3 coins)"),
                (((1, 0), (MOST_COINS, MOST_COINS)), f"Party(2 people, 2{'0' * 42} coins)")]:
            self.assert_exact(repr(Party(state)), wanted)
            self.assert_exact(str(Party(state)), wanted)
        # Python alone does not write out so many digits at once.
        self.assertEqual(repr(Party(((0, 1), (10 ** 6000, 0)))), f"Party(2 people, 1{'0' * 6000} coins)")

    def test_queries_change_nothing_and_returned_lists_are_new(self):
        party = Party(RICH)
        party.do([("exchange", 0)])
        states = [RICH, party.state()]
        log = [("in", 1), "exchange", ("out", 1)]
        for _ in range(2):
            self.assert_party(party, states, log)
            party.exchanges().clear()
            party.log().clear()
            party.log().append("more")
            party.twin().undo()
            party.as_of(0).come(0)


if __name__ == "__main__":
    unittest.main()
