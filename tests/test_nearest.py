"""nearest: of all STATEs that meet a WISH the first of those that need fewest exchanges."""

import random
import unittest

from tollround.errors import OtherPeople, TooMany
from tollround.leading import distance
from tollround.states import is_state
from tollround.wishes import nearest, wish_at, wish_many
from tests.samples import (
    Checks, MOST_COINS, PAIR, RICH, TRIO, all_lots, distances_from, full_states, mate, model_meets,
    model_residues, some_states,
)
from tests.test_wishes import FREE, some_wishes, wish_of


def two_people(coins):
    """Two people with so many coins, all in the purse of the second one."""
    return ((0, 1), (0, coins))


class SmallLotsTest(Checks, unittest.TestCase):
    def check(self, state, wish):
        """The first in ascending order of those with the least distance, by a search."""
        reached = distances_from(state)
        met = sorted(other for other in reached if model_meets(other, wish))
        least = min([reached[other] for other in met], default=None)
        wanted = [other for other in met if reached[other] == least]
        self.assert_exact(nearest(state, wish), wanted[0] if wanted else None)
        return len(wanted)

    def test_examples(self):
        self.assert_exact(nearest(RICH, ((2, None), FREE, FREE)), ((2, 1, 0), (3, 0, 0)))
        self.assert_exact(nearest(RICH, ((1, 0), FREE, FREE)), None)

    def test_as_a_search(self):
        for many, coins in [(2, 1), (2, 6), (3, 1), (3, 3), (3, 5), (4, 1), (4, 2), (4, 3)]:
            for seed, lot in enumerate(all_lots(many, coins)[:12]):
                for at, wish in enumerate(some_wishes(many, coins, 12, seed)):
                    self.check(lot[at % len(lot)], wish)

    def test_wishes_that_are_met_somewhere(self):
        several = 0
        for many, coins in [(2, 5), (3, 4), (3, 6), (4, 3)]:
            for lot in all_lots(many, coins)[:12]:
                for at, state in enumerate(lot):
                    other = lot[-at]
                    for seats, purses in [((0,), ()), ((), (1,)), ((many - 1,), (0,)), ((), (0, 1))]:
                        several += self.check(state, wish_of(other, seats, purses)) > 1
        # In these the order decides.
        self.assertGreater(several, 50)

    def test_the_state_itself_where_it_meets_the_wish(self):
        for many, coins in [(2, 5), (3, 4), (4, 3)]:
            for lot in all_lots(many, coins)[:20]:
                for state in lot:
                    for seats, purses in [((), ()), ((0,), ()), ((), (1,)), ((0, 1), (0, 1))]:
                        self.assert_exact(nearest(state, wish_of(state, seats, purses)), state)

    def test_none(self):
        for state in (PAIR, TRIO, RICH, *full_states(), *some_states()):
            many = len(state[0])
            for wish in [((many, None),), ((None, sum(state[1]) + 1),),
                         (((state[0][0] + 1) % many, state[1][0]),)]:
                self.assert_exact(nearest(state, wish + (FREE,) * (many - 1)), None)

    def test_ties_go_to_the_first_in_ascending_order(self):
        # Both neighbours are one exchange away and have another number of coins in the first purse.
        state = ((1, 0, 2), (2, 2, 2))
        found = [other for other, steps in distances_from(state).items()
                 if steps == 1 and other[0][1] != 0]
        self.assertEqual(len(found), 2)
        for seat in (1, 2):
            wish = (FREE, (seat, None), FREE)
            self.check(state, wish)
        self.check(((0, 1), (3, 3)), ((1, None), FREE))
        self.assert_exact(nearest(((0, 1), (3, 3)), ((1, None), FREE)), ((1, 0), (2, 4)))


class EdgesTest(Checks, unittest.TestCase):
    def test_300_states_and_301(self):
        # Two people with so many coins have one STATE more than coins.
        wish = (FREE, FREE)
        self.assert_exact(wish_many(two_people(299), wish), 300)
        self.assert_exact(nearest(two_people(299), wish), two_people(299))
        self.assert_exact(wish_many(two_people(300), wish), 301)
        self.assert_raises(TooMany, {"many": 301}, nearest, two_people(300), wish)

    def test_300_states_and_301_of_a_greater_lot(self):
        wish = ((1, None), FREE)
        for coins, many in [(599, 300), (600, 300), (601, 301), (602, 301)]:
            state = two_people(coins)
            self.assert_exact(wish_many(state, wish), many)
            if many == 300:
                self.assert_exact(nearest(state, wish), ((1, 0), (1, coins - 1)))
            else:
                self.assert_raises(TooMany, {"many": many}, nearest, state, wish)

    def test_too_many_in_great_lots(self):
        for state in full_states():
            for wish in [(FREE,) * len(state[0]), ((0, None),) + (FREE,) * (len(state[0]) - 1)]:
                many = wish_many(state, wish)
                self.assert_raises(TooMany, {"many": many}, nearest, state, wish)
                self.assert_raises(TooMany, {"many": many}, nearest, wish=list(wish), state=state)

    def test_a_few_states_of_a_great_lot(self):
        chance = random.Random(2)
        for seed, state in enumerate(full_states()[2:] * 2):
            many = len(state[0])
            # Two or three people have few coins, and all others are wished their purses.
            other = self.with_few_coins(mate(state, seed), chance.sample(range(many), 2 + seed % 2))
            few = [x for x in range(many) if other[1][x] < 100]
            wish = wish_of(other, (), [x for x in range(many) if x not in few])
            start = mate(other, seed)
            whole = wish_many(start, wish)
            self.assertTrue(1 <= whole <= 300)
            met = [wish_at(start, wish, number) for number in range(whole)]
            self.assertEqual(met, sorted(set(met)))
            self.assertIn(other, met)
            self.assertTrue(all(model_meets(found, wish) and is_state(found) for found in met))
            least = min(distance(start, found) for found in met)
            wanted = [found for found in met if distance(start, found) == least]
            self.assert_exact(nearest(start, wish), wanted[0])
            self.assertGreater(least, 10 ** 20)

    def with_few_coins(self, state, people):
        """The STATE in which these people have given most of their coins to another one."""
        many, purses = len(state[0]), list(state[1])
        rich = next(x for x in range(many) if x not in people)
        for person in people:
            left = purses[person] % many + many
            purses[rich] += purses[person] - left
            purses[person] = left
        return (state[0], tuple(purses))

    def test_exactly_one_state_that_is_far_away(self):
        for seed, state in enumerate(full_states(most=MOST_COINS)):
            other, everybody = mate(state, seed), range(len(state[0]))
            self.assert_exact(nearest(state, wish_of(other, (), everybody)), other)
            self.assert_exact(nearest(state, wish_of(other, everybody, everybody[1:])), other)

    def test_lots_of_many_people_with_few_coins(self):
        for many, purses in [(12, (1, 0, 0, 0, 1, 1, 5)), (12, (6, 0, 0, 2, 0, 0, 0, 1)),
                             (20, (0, 5, 0, 1, 0, 0, 0, 0, 0, 0, 2, 0)), (30, (0, 5))]:
            state = (tuple(range(many)), purses + (0,) * (many - len(purses)))
            reached = distances_from(state)
            self.assertTrue(1 < len(reached) <= 300)
            for person in range(many):
                for seat in {(state[0][person] + 1) % many, (state[0][person] - 2) % many}:
                    wish = [FREE] * many
                    wish[person] = (seat, None)
                    met = sorted(other for other in reached if other[0][person] == seat)
                    wanted = min(met, key=reached.get, default=None)
                    self.assert_exact(nearest(state, wish), wanted)

    def test_it_leads_there(self):
        state = ((3, 1, 0, 2), (10 ** 40, 0, 4, 5))
        found = nearest(state, ((None, 10 ** 40 + 4), FREE, (None, 0), (None, 1)))
        self.assert_exact(found[1], (10 ** 40 + 4, 4, 0, 1))
        self.assertEqual(model_residues(found), model_residues(state))


class CallsTest(Checks, unittest.TestCase):
    def test_other_people(self):
        for state in (PAIR, TRIO, full_states()[-1]):
            for many in (0, 1, 2, 3, 4, 20):
                if many != len(state[0]):
                    # Before TooMany, which the whole lot would raise.
                    wish = (FREE,) * many
                    self.assert_raises(OtherPeople, {"many": many}, nearest, state, wish)

    def test_lists_for_tuples_and_names(self):
        wish = ((1, None), FREE)
        self.assert_any_shape(nearest, [PAIR, wish], ["state", "wish"], ((1, 0), (0, 1)))
        self.assert_any_shape(nearest, [PAIR, ((2, None), FREE)], ["state", "wish"], None)


if __name__ == "__main__":
    unittest.main()
