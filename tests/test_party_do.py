"""do: several deeds at once, and the log that it writes."""

import copy
import random
import unittest

from tollround.errors import (
    BadDeed, Barred, Empty, Few, Full, NoPerson, NoSeat, OtherPeople, Stops,
)
from tollround.party import Party
from tests.deed_model import model_deed, model_do, some_deed
from tests.samples import PAIR, RICH, TRIO, distances_from, full_states, kinds, shapes
from tests.test_party import FAR, PartyChecks

GOOD = [("exchange", 0), ("run", [0]), ("again", [], 3), ("go", RICH), ("give", 0, 1), ("take", 0, 1),
        ("come", 5), ("leave", 3)]
# Each fails in RICH, and after deeds that give person 2 some coins.
FAILING = [
    (("exchange", 3), NoSeat, {"seat": 3}), (("exchange", 1), Empty, {"person": 1}),
    (("run", [0, -1]), NoSeat, {"seat": -1}), (("run", [0, 0, 1]), Empty, {"person": 1}),
    (("again", [1], 10 ** 60), Stops, {"many": 0}), (("go", PAIR), OtherPeople, {"many": 2}),
    (("go", ((0, 1, 2), (1, 1, 1))), Barred, None), (("give", 3, 1), NoPerson, {"person": 3}),
    (("take", -1, 0), NoPerson, {"person": -1}), (("take", 1, 1), Empty, {"person": 1}),
    (("leave", 10 ** 60), NoPerson, {"person": 10 ** 60}),
]
NO_DEEDS = [
    ["exchange", 0], ["leave", 0], [], None, True, False, 0, 7, -1, 10 ** 60, "", "exchange", "leave",
    (), ("other", 0), ("undo",), ("do", []), ("state",), ("twin",), ("as_of", 0),
    ("deeds",), ("log",), ("Exchange", 0), ("exchange ", 0), ("EXCHANGE", 0), ("", 0), (0, 0),
    (None, 0), (True, 0), (["exchange"], 0), (("exchange",), 0), ({}, 0), ([],), ((),), (b"exchange", 0),
    (("exchange", 0),), ("exchange",), ("exchange", 0, 0), ("run",), ("run", [0], [0]),
    ("again", [0]), ("again", [0], 1, 1), ("again",), ("go",), ("go", RICH, RICH), ("give", 0),
    ("give",), ("give", 0, 1, 2), ("take", 0), ("take", 0, 1, 2), ("come",), ("come", 1, 2),
    ("leave",), ("leave", 0, 1), {}, {"exchange": 0}, {"exchange", "run"}, b"exchange", 1.5, object(),
    ("_keep", 0), ("__init__", RICH), ("written",), ("present",), [[[[[[[[]]]]]]]],
]


class ResultsTest(PartyChecks, unittest.TestCase):
    def test_examples(self):
        party = Party(RICH)
        self.assert_exact(party.do([("exchange", 0), ("give", 0, 1), ("leave", 2)]), [0, 2, 1])
        self.assert_exact(party.deeds(), 3)
        self.assert_raises(BadDeed, {"at": 1}, Party(RICH).do, [("exchange", 0), ("leave",)])

    def test_each_deed_in_a_do(self):
        for deed in GOOD:
            party = Party(RICH)
            if deed[0] == "leave":
                party.come(5)
            before = party.state()
            result, after = model_deed(before, deed)
            self.assert_exact(party.do([deed]), [result])
            self.assert_exact(party.state(), after)
            self.assert_exact(party.log(), [("in", 1), deed[0], ("out", 1)])

    def check_do(self, party, states, log, deeds, whole):
        """The do as in the model; returns STATEs and log after it."""
        results, found, more, error = model_do(states[-1], deeds, whole)
        before = copy.deepcopy(deeds)
        if error is None:
            self.assert_exact(party.do(deeds, whole=whole), results)
        else:
            self.assert_raises(type(error), vars(error), party.do, deeds, whole=whole)
        self.assert_exact(deeds, before)
        states, log = states + found[1:], log + more
        self.assert_party(party, states, log)
        return states, log, error is not None

    def test_many_deeds_at_once_as_one_by_one(self):
        for start, seed in [(PAIR, 1), (TRIO, 2), (RICH, 3), (full_states()[3], 4),
                            (full_states()[9], 5), (full_states()[10], 6)]:
            party, states, log, failed = Party(start), [start], [], 0
            chance = random.Random(seed)
            for at in range(60):
                deeds = self.some_deeds(states[-1], 1000 * seed + 13 * at, chance)
                states, log, error = self.check_do(party, states, log, deeds, chance.random() < 0.5)
                failed += error
            self.assertTrue(8 < failed < 50, failed)
            for left in range(len(states) - 1, 0, -1):
                self.assert_exact(party.undo(), True)
                self.assert_party(party, states[:left], log)
            self.assert_exact(party.undo(), False)

    def some_deeds(self, state, seed, chance):
        """Up to twelve deeds, most of which can be done after those before."""
        deeds = []
        for at in range(chance.choice((0, 1, 2, 3, 12))):
            deed = some_deed(state, seed + at)
            _, found, _, error = model_do(state, [deed], True)
            if error is None or chance.random() < 0.4:
                deeds.append(deed)
                state = found[-1]
        return deeds

    def test_an_empty_do(self):
        party = Party(RICH)
        for at, whole in enumerate((True, False)):
            self.assert_exact(party.do([], whole=whole), [])
            self.assert_party(party, [RICH], [("in", 0), ("out", 0)] * (at + 1))
        self.assert_exact(party.do(()), [])

    def test_an_error_at_the_first_a_middle_and_the_last_place(self):
        good = [("give", 2, 7), ("run", []), ("take", 2, 3), ("go", ((0, 1, 2), (2, 0, 5)))]
        for deed, error, wanted in FAILING:
            for place in (0, 1, 2, len(good)):
                for whole in (True, False):
                    party, states = Party(RICH), [RICH]
                    deeds = [*good[:place], deed, *good[place:]]
                    self.assert_raises(error, wanted or {}, party.do, deeds, whole=whole)
                    for done in good[:0 if whole else place]:
                        states.append(model_deed(states[-1], done)[1])
                    names = [done[0] for done in good[:place]]
                    self.assert_party(party, states,
                                      [("in", len(good) + 1), *names, ("out", place)])
                    self.check_do(Party(RICH), [RICH], [], deeds, whole)

    def test_few_and_full_in_a_do(self):
        for whole in (True, False):
            party = Party(PAIR)
            self.assert_raises(Few, {}, party.do, [("give", 0, 1), ("leave", 0)], whole=whole)
            self.assert_exact(party.deeds(), 0 if whole else 1)
            deeds = [("come", 1)] * 11
            party = Party(PAIR)
            self.assert_raises(Full, {"many": 12}, party.do, deeds, whole=whole)
            self.assert_exact([len(party), party.deeds()], [2, 0] if whole else [12, 10])
            self.assert_exact(party.log(), [("in", 11), *["come"] * 10, ("out", 10)])

    def test_what_was_there_before_stays(self):
        party = Party(RICH)
        party.give(0, 1)
        party.give(0, 1)
        party.undo()
        before = party.state()
        self.assert_raises(Empty, {"person": 1}, party.do, [("give", 2, 1), ("exchange", 1)])
        self.assert_party(party, [RICH, before], [("in", 2), "give", ("out", 1)])
        self.assert_raises(Empty, {"person": 1}, party.do, [("exchange", 1)], whole=True)
        self.assert_exact([party.undo(), party.undo()], [True, False])

    def test_each_deed_is_undone_separately(self):
        party, states = Party(RICH), [RICH]
        party.do(GOOD)
        for deed in GOOD:
            states.append(model_deed(states[-1], deed)[1])
        log = [("in", 8), *[deed[0] for deed in GOOD], ("out", 8)]
        while len(states) > 1:
            self.assert_party(party, states, log)
            self.assert_exact(party.undo(), True)
            states.pop()
        self.assert_exact(party.undo(), False)
        self.assert_party(party, [RICH], log)

    def test_only_do_writes_to_the_log(self):
        party = Party(RICH)
        party.exchange(0)
        party.undo()
        party.run([0])
        party.come(3)
        party.leave(0)
        self.assert_exact(party.log(), [])
        party.do([("come", 1), ("leave", 0)])
        party.undo()
        party.give(0, 1)
        self.assert_exact(party.log(), [("in", 2), "come", "leave", ("out", 2)])


class BadDeedTest(PartyChecks, unittest.TestCase):
    def test_items_that_are_no_deeds(self):
        for item in NO_DEEDS:
            for place in (0, 1, 2):
                for whole in (True, False):
                    party = Party(RICH)
                    deeds = [("give", 0, 1)] * place + [item, ("exchange", 0), None]
                    self.assert_raises(BadDeed, {"at": place}, party.do, deeds, whole=whole)
                    # Nothing was done, and nothing is in the log.
                    self.assert_party(party, [RICH])

    def test_the_first_of_several(self):
        party = Party(RICH)
        self.assert_raises(BadDeed, {"at": 1}, party.do, [("come", 1), None, ["come", 1], ()])
        # Before a deed that would fail earlier.
        self.assert_raises(BadDeed, {"at": 2}, party.do, [("exchange", 1), ("leave", 9), ("come",)])
        self.assert_raises(BadDeed, {"at": 11}, party.do, [("come", 0)] * 11 + [("come",)], whole=False)
        self.assert_party(party, [RICH])

    def test_nothing_remains_of_it_in_a_party_with_deeds(self):
        party = Party(RICH)
        party.do([("exchange", 0)])
        before = [party.state(), party.deeds(), party.log()]
        for item in NO_DEEDS:
            self.assert_raises(BadDeed, {"at": 0}, party.do, [item])
            self.assert_raises(BadDeed, {"at": 1}, party.do, (("give", 0, 1), item))
        self.assert_exact([party.state(), party.deeds(), party.log()], before)


class CallsTest(PartyChecks, unittest.TestCase):
    def test_whole_is_passed_by_name_only(self):
        with self.assertRaises(TypeError):
            Party(RICH).do([("exchange", 0)], False)
        self.assert_exact(Party(RICH).do(deeds=[("exchange", 0)]), [0])
        self.assert_exact(Party(RICH).do(whole=False, deeds=(("exchange", 0),)), [0])

    def test_without_whole_it_is_whole(self):
        party = Party(RICH)
        self.assert_raises(Empty, {"person": 1}, party.do, [("give", 0, 1), ("take", 1, 1)])
        self.assert_party(party, [RICH], [("in", 2), "give", ("out", 1)])

    def test_lists_for_tuples_in_the_arguments_of_deeds(self):
        for goal in shapes(FAR):
            for row in shapes([0, 2]):
                deeds = [("run", row), ("go", goal), ("go", RICH), ("again", row, 1)]
                wanted = [2, distances_from(FAR)[((1, 2, 0), (1, 2, 0))], 3, (1, 2, 0)]
                self.assert_exact(Party(RICH).do(deeds), wanted)
                self.assert_exact(Party(RICH).do(tuple(deeds)), wanted)

    def test_arguments_that_the_caller_changes_later(self):
        goal, row = [[2, 1, 0], [0, 0, 3]], [0, 1, 0]
        deeds = [("run", row), ("go", goal)]
        party = Party(RICH)
        found = party.do(deeds)
        row.clear()
        goal[1][0] = 9
        deeds.clear()
        found.clear()
        log = [("in", 2), "run", "go", ("out", 2)]
        self.assert_party(party, [RICH, FAR, FAR], log)
        party.log().clear()
        self.assert_exact(kinds(party.log()), kinds(log))
        self.assert_exact([party.undo(), party.undo(), party.undo()], [True, True, False])
        self.assert_party(party, [RICH], log)

    def test_a_new_list_of_results_each_time(self):
        party = Party(RICH)
        first = party.do([("give", 0, 0)])
        second = party.do([("give", 0, 0)])
        self.assertIsNot(first, second)
        self.assert_exact([first, second], [[2], [2]])


if __name__ == "__main__":
    unittest.main()
