"""answers: each line with its answer or refusal, and lines that are none."""

import random
import unittest

from tollround.counting import lot_many, state_number
from tollround.desk import answers
from tollround.errors import BadLine
from tollround.leading import distance
from tollround.party import Party
from tollround.passes import passes_many
from tollround.texts import row_text, state_text, wish_text
from tollround.wishes import wish_many
from tests.deed_model import ERRORS
from tests.samples import (
    Checks, MOST_COINS, PAIR, RICH, TRIO, full_states, mate, some_states,
)
from tests.test_texts import NO_NUMBERS
from tests.test_wishes import some_wishes

NINES = "9" * 50
START = "0:2 1:0 2:1"
GOOD_LINES = [
    "at 0", "run 0 1", "run -", "again 3 -", "again 0 0", f"go {START}", "give 0 1", "take 0 1",
    "come 5", "leave 0", "undo", "show", "lot", "number", "passes 0 0", "passes -",
    "wish ?:? 1:0 2:?", f"far {START}", f"at {NINES}", f"run 0 {NINES}", f"again {NINES} 0",
    f"give {NINES} {NINES}", f"go 0:{NINES} 1:0", f"wish {NINES}:{NINES} ?:?",
]


class DeskChecks(Checks):
    """Checks of answers to mix into a unittest.TestCase."""

    def ask(self, *lines, start=START):
        """The answers to these lines."""
        return answers("\n".join([start, *lines]))

    def assert_answers(self, lines, wanted, start=START):
        """Exactly these answers, each time again."""
        for _ in range(2):
            self.assert_exact(self.ask(*lines, start=start), wanted)

    def assert_bad(self, at, text):
        """The line with this index is the first one that has none of the forms."""
        self.assert_raises(BadLine, {"at": at}, answers, text)
        self.assert_raises(BadLine, {"at": at}, answers, text=text)


class AnswersTest(DeskChecks, unittest.TestCase):
    def test_example(self):
        text = ("0:2 1:0 2:1\nat 0\nat 0\nrun 0 1\nshow\nlot\nnumber\npasses 0 0\n"
                "far 0:2 1:0 2:1\ntake 0 1\nundo\nundo\nundo")
        wanted = ["0", "1", "2", "2:0 0:1 1:2", "7", "3", "endless", "2", "refused Empty", "done",
                  "done", "done"]
        self.assert_exact(answers(text), wanted)
        self.assert_exact(answers(text=text), wanted)

    def test_only_a_state(self):
        self.assert_answers([], [])
        self.assert_answers([], [], start="1:0 0:0")

    def test_at(self):
        self.assert_answers(["at 0", "at 0", "at 2", "show"], ["0", "1", "2", "2:3 1:0 0:0"])
        self.assert_answers(["at 1", "at 3", f"at {NINES}", "undo", "show"],
                            ["refused Empty", "refused NoSeat", "refused NoSeat", "nothing", START])

    def test_run(self):
        self.assert_answers(["run 0 1 0", "show", "undo", "show", "run -", "undo", "undo"],
                            ["3", "2:0 1:0 0:3", "done", START, "0", "done", "nothing"])
        self.assert_answers(["run 0 0 1", "run 0 3", f"run {NINES}", "run 1 3", "show", "undo"],
                            ["refused Empty", "refused NoSeat", "refused NoSeat", "refused Empty",
                             START, "nothing"])

    def test_again(self):
        self.assert_answers(["again 1 0 2", "undo", "again 2 0 2", "again 0 0 2", "show"],
                            ["1:1 2:2 0:0", "done", "refused Stops", START, START])
        self.assert_answers([f"again {NINES} 0 0", f"again {NINES} -", "again 1 1", "again 0 1"],
                            [START, START, "refused Stops", START])

    def test_a_seat_that_is_not_at_the_table(self):
        # Whatever N is, and whatever fails before.
        for many in ("0", "1", "7", NINES):
            for row in ("3", "0 3", "1 3", "0 0 4 0", NINES, f"{NINES} 0"):
                self.assert_answers([f"again {many} {row}", f"passes {row}", "undo", "show"],
                                    ["refused NoSeat", "refused NoSeat", "nothing", START])
        # The table may grow and shrink.
        self.assert_answers(["passes 3", "come 1", "passes 3 3", "leave 3", "again 0 3"],
                            ["refused NoSeat", "4", "endless", "1", "refused NoSeat"])

    def test_go_and_far(self):
        self.assert_answers(["far 2:0 1:0 0:3", "go 2:0 1:0 0:3", "far 2:0 1:0 0:3", f"far {START}",
                             "undo", "show"], ["3", "3", "0", "3", "done", START])
        for word in ("go", "far"):
            self.assert_answers([f"{word} 0:1 1:0", f"{word} 0:1 1:1 2:1 3:0", f"{word} 0:1 1:0 2:0",
                                 f"{word} 0:1 1:1 2:1", "undo"],
                                ["refused OtherPeople", "refused OtherPeople", "refused Barred",
                                 "refused Barred", "nothing"])

    def test_give_and_take(self):
        self.assert_answers(["give 1 5", "take 1 5", "take 1 1", "take 0 2", "give 0 0", "show"],
                            ["5", "0", "refused Empty", "0", "0", "0:0 1:0 2:1"])
        self.assert_answers(["give 3 1", "take 3 0", f"give {NINES} 0", f"give 0 {NINES}"],
                            ["refused NoPerson"] * 3 + [str(10 ** 50 + 1)])

    def test_come_and_leave(self):
        self.assert_answers(["come 4", "show", "leave 0", "show", "leave 0", "leave 0", "leave 2"],
                            ["4", f"{START} 3:4", "2", "0:0 1:1 2:4", "0", "refused Few",
                             "refused NoPerson"])
        self.assert_answers(["come 0"] * 12, [*map(str, range(4, 13)), *["refused Full"] * 3])

    def test_undo(self):
        self.assert_answers(["undo", "at 0", "give 0 0", "undo", "undo", "undo", "show"],
                            ["nothing", "0", "1", "done", "done", "nothing", START])

    def test_lot_and_number(self):
        self.assert_answers(["lot", "number", "go 2:3 1:0 0:0", "number", "give 0 1", "lot"],
                            ["7", "0", "1", "6", "4", str(lot_many(((2, 1, 0), (4, 0, 0))))])
        self.assert_answers(["lot", "number"], ["1", "0"], start="1:0 0:0")

    def test_passes(self):
        self.assert_answers(["passes 0 2", "passes 0 0", "passes 1", "passes -", "undo"],
                            ["1", "endless", "0", "endless", "nothing"])
        self.assert_answers(["passes 0 1 2"], [str(10 ** 49 // 3)], start=f"0:1{'0' * 49} 1:0 2:0")

    def test_wish(self):
        self.assert_answers(["wish 2:? ?:? ?:?", "wish ?:? ?:? ?:?", "wish ?:1 ?:2 0:?", "wish 3:? ?:? ?:?",
                             f"wish {NINES}:{NINES} ?:? ?:?"], ["4", "7", "1", "0", "0"])
        self.assert_answers(["wish ?:? ?:?", "wish ?:? ?:? ?:? ?:?", "come 0", "wish ?:? ?:? ?:?"],
                            ["refused OtherPeople", "refused OtherPeople", "4", "refused OtherPeople"])

    def test_a_refused_request_changes_nothing(self):
        refused = ["at 9", "run 0 0 9", "again 2 0 2", "again 0 9", "go 0:1 1:0", "give 9 1", "take 1 1",
                   "leave 9", "passes 9", "wish ?:? ?:?", "far 0:1 1:0"]
        found = self.ask(*[line for line in refused for line in (line, "show", "undo")])
        self.assertTrue(all(text.startswith("refused ") for text in found[::3]))
        self.assert_exact(found[1::3], [START] * len(refused))
        self.assert_exact(found[2::3], ["nothing"] * len(refused))

    def test_more_people_than_a_party_takes(self):
        for many in (12, 13, 40):
            state = (tuple(reversed(range(many))), (10 ** 20,) * many)
            found = self.ask("come 0", "leave 0", "show", "lot", "number", "far 0:1 1:1",
                             "wish " + " ".join(["?:?"] * (many - 1)), start=state_text(state))
            seats = tuple(range(many - 1))[::-1]
            left = (seats, state[1][1:])
            self.assert_exact(found, ["refused Full", str(10 ** 20), state_text(left),
                                      str(lot_many(left)), str(state_number(left, left)),
                                      "refused OtherPeople", str(lot_many(left))])

    def test_numbers_of_many_thousand_digits(self):
        # Python alone does not write out so many at once.
        many = 150
        state = (tuple(range(many)), (10 ** 50 - 1,) * many)
        found = self.ask("lot", start=state_text(state))[0]
        self.assertGreater(len(found), 5000)
        left, part = lot_many(state), []
        while left:
            left, digit = divmod(left, 10)
            part.append("0123456789"[digit])
        self.assertEqual(found, "".join(reversed(part)))


class SessionsTest(DeskChecks, unittest.TestCase):
    """Texts with many lines, against the same calls of one Party."""

    def answered(self, party, word, *args):
        """The answer to one request, from the Party and the functions of the package."""
        try:
            if word == "undo":
                return "done" if party.undo() else "nothing"
            if word in ("again", "passes") and [seat for seat in args[-1] if seat >= len(party)]:
                return "refused NoSeat"
            if word == "again":
                party.again(args[1], args[0])
                return state_text(party.state())
            if word == "passes":
                many = passes_many(party.state(), *args)
                return "endless" if many is None else str(many)
            deeds = {"at": party.exchange, "run": party.run, "go": party.go, "give": party.give,
                     "take": party.take, "come": party.come, "leave": party.leave, "lot": party.lot,
                     "show": lambda: state_text(party.state()),
                     "number": lambda: state_number(party.state(), party.state()),
                     "wish": lambda wish: wish_many(party.state(), wish),
                     "far": lambda goal: distance(party.state(), goal)}
            return str(deeds[word](*args))
        except ERRORS as error:
            return "refused " + type(error).__name__

    def some_request(self, state, chance):
        """The line of a request, its word and its arguments."""
        many = len(state[0])
        number = chance.choice([*range(many), *range(many), many, many + 3])
        coins = chance.choice((0, 1, 2, many, 10 ** 20))
        row = [chance.choice([*range(many)] * 5 + [many]) for _ in range(chance.choice((0, 1, 2, 5)))]
        goals = [state, (state[0], state[1][::-1]), ((1, 0), (1, sum(state[1])))]
        if sum(state[1]) > many * many:
            goals += [mate(state, chance.random())] * 3
        goal = chance.choice(goals)
        passes = chance.choice((0, 1, 2, 10 ** 30))
        wish = chance.choice(some_wishes(chance.choice((many, many, many, 2)), 5, 8, coins))
        return chance.choice([
            (f"at {number}", "at", number), ("run " + row_text(row), "run", row),
            (f"again {passes} " + row_text(row), "again", passes, row),
            ("go " + state_text(goal), "go", goal), (f"give {number} {coins}", "give", number, coins),
            (f"take {number} {coins}", "take", number, coins), (f"come {coins}", "come", coins),
            (f"leave {number}", "leave", number), ("undo", "undo"), ("undo", "undo"), ("show", "show"),
            ("lot", "lot"), ("number", "number"), ("passes " + row_text(row), "passes", row),
            ("wish " + wish_text(wish), "wish", wish), ("far " + state_text(goal), "far", goal),
        ])

    def test_sixty_lines(self):
        kinds = set()
        for at, state in enumerate([PAIR, TRIO, RICH, *full_states(), *some_states()]):
            chance, party, lines, wanted = random.Random(at), Party(state), [], []
            for _ in range(59):
                line, *request = self.some_request(party.state(), chance)
                lines.append(line)
                wanted.append(self.answered(party, *request))
                kinds.add((request[0], wanted[-1] if "refused" in wanted[-1] else ""))
            self.assert_exact(self.ask(*lines, start=state_text(state)), wanted)
        # All kinds of lines were answered, and refused in most of the ways.
        self.assertEqual(len([word for word, refusal in kinds if not refusal]), 15)
        self.assertEqual(len({refusal for _, refusal in kinds}), 9)


class BadLinesTest(DeskChecks, unittest.TestCase):
    def test_the_good_lines_are_good(self):
        self.assertEqual(len(self.ask(*GOOD_LINES)), len(GOOD_LINES))

    def test_the_first_line(self):
        for line in ["", " ", "0:2", "0:2 1:0 1:1", "0:2 1:0 3:1", START + " ", " " + START,
                     "0:2  1:0 2:1", "0:02 1:0 2:1", "?:? ?:?", "-", "show", "at 0", "0 1 2",
                     f"go {START}", "0:2 1:0 2:-1", f"0:1{NINES} 1:0", START + "\t", START + "\r"]:
            self.assert_bad(0, line)
            self.assert_bad(0, line + "\nshow")
            # Before a later line that is bad, too.
            self.assert_bad(0, line + "\nshow\nno")
            self.assert_bad(0, line + "\n")

    def bad_lines(self):
        """Lines that have none of the forms."""
        found = ["", " ", "-", "0", START, "at", "at 0 1", "run", "again", "again 1", "again -", "again - 1",
                 "again 1 - 1", "go", "go 0:1", "go 0:1 0:1", "go 0:1 2:1", "go ?:? ?:?", "go 0:1 1:?",
                 "go -", "give", "give 1", "give 1 1 1", "take", "take 1", "take 1 1 1", "come",
                 "come 1 1", "leave", "leave 1 1", "undo 1", "undo undo", "show 1", "show -", "lot 0",
                 "number 0", "passes", "passes - 1", "passes - -", "run - 1", "wish", "wish ?:?", "wish 0",
                 "wish - -", "wish ? ?", "far", "far 0:1", "far -", "far 0:0 2:0", "no", "exchange 0",
                 "twin", "log", "state", "exchanges", "do", "as_of 0", "answers", "1 at", "0 at",
                 "run [0]", "run 0,1", "at:0", "at=0", "at\t0", "#", "# at 0", "at 0 # no", "at 0;",
                 "at 0\r", "at 0\t", "at 0\x0b", "at 0\x0c", "\ufeffat 0", "at 0\u2028at 0", "at\u00a00"]
        for line in GOOD_LINES:
            found += [line + " ", " " + line, line.upper(), line.capitalize(), line + " x", "x " + line,
                      line[:1].swapcase() + line[1:], line + "\r", line + "\t", line + " -1", line + "."]
            if " " in line:
                found += [line.replace(" ", "  "), line.replace(" ", "  ", 1), line.replace(" ", "\t"),
                          line.replace(" ", "")]
        for word in NO_NUMBERS:
            if "\n" not in word:
                found += [f"{form} {word}" for form in ("at", "come", "leave")]
                found += [f"{form} {word} 1" for form in ("give", "take", "again")]
                found += [f"{form} 1 {word}" for form in ("give", "take")]
                found += [f"{form} 0:{word} 1:1" for form in ("go", "far", "wish")]
                found += [f"{form} 1 {word} 1" for form in ("run", "passes", "again 1")]
                if word != "-":
                    found += [f"{form} {word}" for form in ("run", "passes", "again 1")]
        return found

    def test_bad_lines_in_all_places(self):
        for line in self.bad_lines():
            self.assert_bad(1, f"{START}\n{line}")
            self.assert_bad(2, f"{START}\nshow\n{line}")
            self.assert_bad(1, f"{START}\n{line}\nshow\n{line}\nno")
            # Before anything is answered, whatever would be refused.
            self.assert_bad(3, f"{START}\nat 9\nleave 9\n{line}\nat 9")

    def test_empty_lines(self):
        self.assert_bad(0, "")
        self.assert_bad(0, "\n")
        self.assert_bad(1, START + "\n")
        self.assert_bad(2, START + "\nshow\n")
        self.assert_bad(1, START + "\n\nshow")
        self.assert_bad(0, "\n" + START)
        self.assert_bad(60, START + "\n" + "show\n" * 59)
        self.assert_bad(2, START + "\nshow\n\n\n")

    def test_the_same_text_again(self):
        text = "\n".join([START, *GOOD_LINES])
        first = answers(text)
        kept = list(first)
        first.clear()
        self.assert_bad(1, START + "\nno")
        self.assert_exact(answers(text), kept)
        self.assertIsNot(answers(text), answers(text))
        self.assertTrue(all(type(line) is str for line in kept))


class GreatTest(DeskChecks, unittest.TestCase):
    def test_full_purses(self):
        for seed, state in enumerate(full_states(most=MOST_COINS)):
            other = mate(state, seed)
            found = self.ask("far " + state_text(other), "go " + state_text(other), "number", "lot",
                             "wish " + wish_text(tuple((None, coins) for coins in other[1])),
                             start=state_text(state))
            wanted = [distance(state, other), distance(state, other), state_number(state, other),
                      lot_many(state), 1]
            self.assert_exact(found, list(map(str, wanted)))


if __name__ == "__main__":
    unittest.main()
