"""meets, wish_many and wish_at."""

import itertools
import math
import random
import unittest
from fractions import Fraction

from tollround.chances import seat_chances
from tollround.counting import lot_many, state_at
from tollround.errors import NoNumber, OtherPeople
from tollround.wishes import meets, wish_at, wish_many
from tests.samples import (
    Checks, MOST_COINS, PAIR, RICH, TRIO, all_lots, full_states, mate, model_meets,
    model_residues, some_states,
)

FREE = (None, None)


def some_wishes(many, coins, count, seed):
    """WISHes with few and with many parts, also ones that nobody can meet."""
    chance = random.Random(seed)
    seats, purses = list(range(many + 1)), list(range(coins + 2))
    found = []
    for at in range(count):
        none = at % 4
        found.append(tuple((chance.choice(seats + [None] * many * none),
                            chance.choice(purses + [None] * coins * none)) for _ in range(many)))
    return found


def wish_of(state, seats=(), purses=()):
    """The WISH that these people sit, and that these have coins, as in the STATE."""
    return tuple((state[0][x] if x in seats else None, state[1][x] if x in purses else None)
                 for x in range(len(state[0])))


class SmallLotsTest(Checks, unittest.TestCase):
    def check_lot(self, lot, wish):
        """All answers about the WISH in this lot."""
        met = [state for state in lot if model_meets(state, wish)]
        self.assert_exact([meets(state, wish) for state in lot], [state in met for state in lot])
        state = lot[len(lot) // 2]
        self.assert_exact(wish_many(state, wish), len(met))
        self.assert_exact([wish_at(state, wish, number) for number in range(len(met))], met)
        for number in (-1, len(met), len(met) + 1):
            self.assert_raises(NoNumber, {"number": number}, wish_at, state, wish, number)

    def test_examples(self):
        seat, coins = (2, None), (None, 0)
        self.assert_exact(meets(RICH, ((0, None), coins, FREE)), True)
        self.assert_exact(wish_many(RICH, (seat, FREE, FREE)), 4)
        self.assert_exact(wish_at(RICH, (coins, FREE, FREE), 1), ((2, 1, 0), (0, 0, 3)))
        self.assert_exact(wish_many(RICH, ((None, 1), (None, 2), (0, None))), 1)

    def test_all_wishes_of_two_people(self):
        for coins in range(5):
            items = list(itertools.product((0, 1, 2, None), [*range(coins + 2), None]))
            for lot in all_lots(2, coins):
                for wish in itertools.product(items, repeat=2):
                    self.check_lot(lot, wish)

    def test_all_wishes_for_seats_only_and_for_coins_only(self):
        for many, coins in [(3, 2), (3, 4), (4, 1)]:
            seats = itertools.product((*range(many + 1), None), repeat=many)
            purses = itertools.product((*range(coins + 2), None), repeat=many)
            wishes = [tuple((seat, None) for seat in row) for row in seats]
            wishes += [tuple((None, own) for own in row) for row in purses]
            for at, lot in enumerate(all_lots(many, coins)):
                for wish in wishes[at % 5::5]:
                    self.check_lot(lot, wish)

    def test_wishes_of_all_kinds(self):
        for many, coins in [(3, 1), (3, 3), (3, 5), (3, 8), (4, 1), (4, 2), (4, 4)]:
            for seed, lot in enumerate(all_lots(many, coins)[:40]):
                for wish in some_wishes(many, coins, 20, seed):
                    self.check_lot(lot, wish)

    def test_wishes_that_a_state_of_the_lot_meets(self):
        for many, coins in [(3, 4), (3, 7), (4, 2), (4, 3)]:
            for lot in all_lots(many, coins)[:25]:
                for state in lot[::5]:
                    for seats, purses in [((), ()), ((0,), ()), ((), (0,)), ((1,), (0,)),
                                          ((0, 2), (0,)), ((), range(many)), (range(many), ()),
                                          (range(many), range(many))]:
                        self.check_lot(lot, wish_of(state, seats, purses))


class EdgesTest(Checks, unittest.TestCase):
    def test_a_wish_for_nothing_is_the_whole_lot(self):
        for state in some_states() + full_states():
            wish = (FREE,) * len(state[0])
            many = lot_many(state)
            self.assert_exact(wish_many(state, wish), many)
            for number in (0, many // 3, many - 1):
                self.assert_exact(wish_at(state, wish, number), state_at(state, number))
            self.assert_raises(NoNumber, {"number": many}, wish_at, state, wish, many)

    def test_a_wish_for_everything_is_one_state(self):
        for seed, state in enumerate(full_states()):
            other, everybody = mate(state, seed), range(len(state[0]))
            for wish in (wish_of(other, everybody, everybody), wish_of(other, (), everybody)):
                self.assert_exact([meets(other, wish), meets(state, wish)], [True, other == state])
                self.assert_exact(wish_many(state, wish), 1)
                self.assert_exact(wish_at(state, wish, 0), other)
                self.assert_raises(NoNumber, {"number": 1}, wish_at, state, wish, 1)

    def test_a_purse_too_full_and_a_coin_too_few(self):
        for state in full_states():
            many = len(state[0])
            for extra in (many, -many):
                # Everybody has the right residue, but the total is another one.
                purses = (state[1][0] + extra,) + state[1][1:]
                self.check_none(state, tuple(zip(state[0], purses)))
            self.check_none(state, ((None, sum(state[1]) + 1),) + (FREE,) * (many - 1))
            self.check_none(state, ((None, 10 ** 60),) + (FREE,) * (many - 1))

    def check_none(self, state, wish):
        """No STATE of the lot meets the WISH."""
        self.assert_exact(meets(state, wish), False)
        self.assert_exact(wish_many(state, wish), 0)
        self.assert_raises(NoNumber, {"number": 0}, wish_at, state, wish, 0)

    def test_a_seat_of_n_or_more(self):
        for state in full_states() + [PAIR, TRIO, RICH]:
            many = len(state[0])
            for seat in (many, many + 1, 2 * many, 10 ** 60):
                self.check_none(state, (FREE,) * (many - 1) + ((seat, None),))
                self.check_none(state, ((seat, state[1][0]),) + (FREE,) * (many - 1))

    def test_the_same_seat_twice(self):
        for state in full_states():
            many = len(state[0])
            for seat in (0, many - 1):
                self.check_none(state, ((seat, None), (seat, None)) + (FREE,) * (many - 2))
            # The coins of the second person go with the seat of the first one only.
            coins = (model_residues(state)[1] - state[0][0]) % many + many
            self.check_none(state, ((state[0][0], None), (None, coins)) + (FREE,) * (many - 2))

    def test_a_purse_that_the_seat_does_not_go_with(self):
        for state in full_states():
            many = len(state[0])
            for more in range(1, many):
                wish = ((state[0][0], state[1][0] - more),) + (FREE,) * (many - 1)
                self.check_none(state, wish)
            wish = ((state[0][0], state[1][0] - many),) + (FREE,) * (many - 1)
            self.assertGreater(wish_many(state, wish), 0)

    def test_meeting_is_exact(self):
        self.assert_exact(meets(RICH, (FREE,) * 3), True)
        for x in range(3):
            for seat, coins in itertools.product((*range(4), None), repeat=2):
                wish = [FREE] * 3
                wish[x] = (seat, coins)
                wanted = seat in (None, RICH[0][x]) and coins in (None, RICH[1][x])
                self.assert_exact(meets(RICH, wish), wanted)


class GreatLotsTest(Checks, unittest.TestCase):
    def test_the_wish_for_a_seat_as_seat_chances_tells(self):
        for state in full_states() + some_states() + full_states(seed=3, most=40):
            many = len(state[0])
            for person in {0, many // 2, many - 1}:
                found = []
                for seat in range(many):
                    wish = [FREE] * many
                    wish[person] = (seat, None)
                    found.append(wish_many(state, wish))
                self.assertEqual(sum(found), lot_many(state))
                chances = [Fraction(*pair) for pair in seat_chances(state, person)]
                self.assertEqual([Fraction(ways, lot_many(state)) for ways in found], chances)

    def test_as_a_sum_over_all_seatings(self):
        chance = random.Random(4)
        for seed, state in enumerate(full_states()[:5] * 6 + full_states(seed=9, most=30)[:5] * 6):
            other, many = mate(state, seed) if sum(state[1]) > 10 ** 9 else state, len(state[0])
            wish = wish_of(other, [x for x in range(many) if chance.random() < 0.3],
                           [x for x in range(many) if chance.random() < 0.3])
            self.assert_exact(wish_many(state, wish), self.counted(state, wish))

    def counted(self, state, wish):
        """How many STATEs of the lot meet the WISH, seating by seating."""
        many, found = len(state[0]), 0
        for seats in itertools.permutations(range(many)):
            purses = [(mark - seat) % many for mark, seat in zip(model_residues(state), seats)]
            rest, free = sum(state[1]), 0
            for least, seat, (wished, coins) in zip(purses, seats, wish):
                if wished not in (None, seat) or coins is not None and coins % many != least:
                    break
                rest -= least if coins is None else coins
                free += coins is None
            else:
                if rest >= 0 and free:
                    found += math.comb(rest // many + free - 1, free - 1)
                found += rest == 0 and not free
        return found

    def test_numbers_ascend_as_the_states_do(self):
        chance = random.Random(7)
        for seed, state in enumerate(full_states() * 2):
            other, many = mate(state, seed), len(state[0])
            wish = wish_of(other, [x for x in range(many) if chance.random() < 0.3],
                           [x for x in range(many) if chance.random() < 0.2])
            whole, last = wish_many(state, wish), None
            numbers = {0, whole - 1} | {chance.randrange(whole) for _ in range(6)}
            for number in sorted(numbers):
                found = wish_at(state, wish, number)
                self.assertEqual(model_residues(found), model_residues(state))
                self.assertEqual(sum(found[1]), sum(state[1]))
                self.assert_exact(sorted(found[0]), list(range(many)))
                self.assertTrue(min(found[1]) >= 0 and model_meets(found, wish))
                self.assertTrue(last is None or last < found)
                last = found

    def test_neighbours_in_the_order(self):
        # The 20 STATEs are the next ones: none of those between meets the wish.
        state = ((0, 1, 2), (10 ** 40, 10 ** 40, 10 ** 40))
        wish = ((1, None), FREE, FREE)
        found = [wish_at(state, wish, number) for number in range(20)]
        self.assertEqual(found, sorted(set(found)))
        first = next(number for number in range(10 ** 6)
                     if state_at(state, self.number_with_seat_0() + number)[0][0] == 1)
        wanted = [state_at(state, self.number_with_seat_0() + first + k) for k in range(20)]
        self.assert_exact(found, wanted)

    def number_with_seat_0(self):
        """The number of STATEs in which the first person sits on seat 0."""
        state = ((0, 1, 2), (10 ** 40, 10 ** 40, 10 ** 40))
        return wish_many(state, ((0, None), FREE, FREE))

    def test_more_people_than_the_limit(self):
        many = 30
        seats = tuple((7 * k + 3) % many for k in range(many))
        for state in [(seats, (1,) * many), (seats, tuple(range(many))), (seats, (10 ** 45,) * many)]:
            wish = ((state[0][0], None),) + (FREE,) * (many - 2) + ((None, state[1][-1]),)
            whole = wish_many(state, wish)
            self.assertTrue(0 < whole < lot_many(state))
            found = wish_at(state, wish, whole // 2)
            self.assertTrue(model_meets(found, wish))
            self.assertEqual(model_residues(found), model_residues(state))


class CallsTest(Checks, unittest.TestCase):
    def test_numbers_that_nothing_has(self):
        for state in full_states() + [PAIR, TRIO, RICH]:
            wish = ((state[0][0], None),) + (FREE,) * (len(state[0]) - 1)
            whole = wish_many(state, wish)
            for number in (-1, -whole, whole, whole + 1, whole * 10 ** 60, -10 ** 60, 10 ** 5000):
                self.assert_raises(NoNumber, {"number": number}, wish_at, state, wish, number)

    def test_other_people(self):
        for state in (PAIR, TRIO, RICH):
            for many in (0, 1, 2, 3, 4, 20):
                if many != len(state[0]):
                    wish = [FREE] * many
                    self.assert_raises(OtherPeople, {"many": many}, meets, state, wish)
                    self.assert_raises(OtherPeople, {"many": many}, wish_many, state, tuple(wish))
                    # Before any other error: there is no STATE with these numbers either.
                    for number in (0, -1, 10 ** 9):
                        self.assert_raises(OtherPeople, {"many": many}, wish_at, state, wish, number)
                    self.assert_raises(OtherPeople, {"many": many}, meets, wish=wish, state=state)

    def test_lists_for_tuples_and_names(self):
        wish = ((1, None), (None, 1))
        names = ["state", "wish", "number"]
        self.assert_any_shape(meets, [PAIR, wish], names[:2], False)
        self.assert_any_shape(wish_many, [PAIR, ((1, None), FREE)], names[:2], 1)
        self.assert_any_shape(wish_at, [PAIR, wish, 0], names, ((1, 0), (0, 1)))

    def test_the_same_again(self):
        wish = [[0, None], [None, None], [None, None]]
        state = [[0, 1, 2], [MOST_COINS] * 3]
        for _ in range(2):
            self.assert_exact(wish_at(state, wish, 10 ** 40), wish_at(state, wish, 10 ** 40))
        self.assert_exact(wish, [[0, None], [None, None], [None, None]])
        self.assert_exact(state, [[0, 1, 2], [MOST_COINS] * 3])


if __name__ == "__main__":
    unittest.main()
