"""STATEs, ROWs and WISHes as texts, there and back, and what is no text."""

import itertools
import random
import unittest

from tollround.errors import BadText
from tollround.texts import row_in, row_text, state_in, state_text, wish_in, wish_text
from tests.samples import Checks, MOST_COINS, PAIR, RICH, full_states, some_states

NINES = "9" * 50
# No numbers, in whatever place.
NO_NUMBERS = [
    "", " ", "-", "-1", "+1", "-0", "+0", "00", "01", "007", "0x1", "0b1", "1_0", "_1", "1_", "1.0", "1.",
    ".5", "1e3", "1,0", "a", "O", "l", "None", "True", "1\n", "\n1", "\t1", "1\t", "1\r", "1\x00", "1\x0b",
    "\u0661", "\u0967", "\uff11", "1\u0661", "\u00b2", "\u00bd", "\u4e00", "\ud800", "1" * 51, "9" * 51,
    "1" * 5000, "0" * 51, "0" + "1" * 49, "%", "#", "1\u00a0", "\u20031",
]


def great_tables(seed=1):
    """STATEs of two to forty people, with empty and with full purses."""
    chance = random.Random(seed)
    found = []
    for many in range(2, 41):
        seats = list(range(many))
        chance.shuffle(seats)
        for most in (0, 10, 10 ** 40, 10 ** 50 - 1):
            found.append((tuple(seats), tuple(chance.choice((0, most, chance.randint(0, most)))
                                              for _ in seats)))
    return found


class Refusals(Checks):
    """Checks of texts that are none, to mix into a unittest.TestCase."""

    def assert_bad(self, function, text):
        """The function does not read this text, and says so."""
        self.assert_raises(BadText, {"text": text}, function, text)
        self.assert_raises(BadText, {"text": text}, function, text=text)

    def assert_all_bad(self, function, good):
        """Blanks and other signs in the wrong place spoil a good text."""
        function(good)
        for text in ["", " ", good + " ", " " + good, good.replace(" ", "  "), good + "\n",
                     "\n" + good, good.replace(" ", "\n"), good.replace(" ", "\t"), good + "\t",
                     good.replace(" ", ","), good.replace(" ", " - "), good + " -", "- " + good,
                     good.replace(" ", "\u00a0"), good + ",", good + ";", good + ":", ":" + good,
                     good + " :", good + " x", good.replace(" ", " \n "), "(" + good + ")", good + "%"]:
            if text != good:
                self.assert_bad(function, text)


class StateTest(Refusals, unittest.TestCase):
    def test_examples(self):
        self.assert_exact(state_text(RICH), "0:2 1:0 2:1")
        self.assert_exact(state_in("1:0 0:3"), ((1, 0), (0, 3)))
        self.assert_raises(BadText, {"text": "0:1 0:2"}, state_in, "0:1 0:2")

    def test_there_and_back(self):
        for state in great_tables() + some_states() + full_states() + [PAIR, RICH]:
            wanted = " ".join(f"{seat}:{coins}" for seat, coins in zip(*state))
            self.assert_exact(state_text(state), wanted)
            self.assert_exact(state_in(wanted), state)

    def test_numbers_of_fifty_digits_and_of_fifty_one(self):
        self.assert_exact(state_in(f"0:{NINES} 1:1"), ((0, 1), (10 ** 50 - 1, 1)))
        self.assert_exact(state_text(((0, 1), (10 ** 50 - 1, 1))), f"0:{NINES} 1:1")
        self.assert_bad(state_in, f"0:1{'0' * 50} 1:1")
        self.assert_bad(state_in, f"0:0{NINES} 1:1")

    def test_each_sign_that_is_no_digit(self):
        for code in [*range(300), 0x660, 0x966, 0x2028, 0xfeff, 0xff10, 0x1d7ce]:
            sign = chr(code)
            if sign not in "0123456789":
                for text in [f"0:{sign} 1:1", f"0:1{sign} 1:1", f"0:1 1:{sign}1", f"{sign}:1 1:1",
                             f"0:1{sign}1:1"]:
                    if text != "0:1 1:1":
                        self.assert_bad(state_in, text)
                if sign != " ":
                    self.assert_bad(row_in, f"1{sign}1")
                    self.assert_bad(row_in, f"1 {sign}1 1")

    def test_a_number_that_is_none(self):
        for word in NO_NUMBERS:
            for text in [f"{word}:1 0:2", f"1:{word} 0:2", f"1:1 {word}:2", f"1:1 0:{word}",
                         f"{word}:0 1:1", f"1:1 {word}:0", f"{word}:{word} {word}:{word}"]:
                self.assert_bad(state_in, text)

    def test_blanks_colons_and_other_signs(self):
        for good in ("0:1 1:2", "2:0 0:0 1:0", f"1:{NINES} 0:0"):
            self.assert_all_bad(state_in, good)
        for text in ["0 1", "0:1 1", "0 1:1", "0:1:1 1:1", "0:1 1:1:", "0::1 1:1", "::", "0: 1:1",
                     ":0 1:1", "0:1 :1", "0;1 1;1", "0 :1 1:1", "0: 1 1:1", "0:1,1:1", "1:1:0:1",
                     ":", ": :", "0:1 1:?", "?:1 0:1", "?:? ?:?", "-", "- -", "0:- 1:-", "0:1 - 1:1"]:
            self.assert_bad(state_in, text)

    def test_seats_that_are_not_there_or_come_twice(self):
        for text in ["0:1 2:1", "1:1 2:1", "0:1 0:1", "1:0 1:0", "0:1 1:1 1:1", "0:1 1:1 3:1",
                     "0:1 1:1 2:1 4:1", f"0:1 {NINES}:1", "0:0 1:0 2:0 3:0 4:0 5:0 6:0 7:0 8:0 10:0"]:
            self.assert_bad(state_in, text)
        for text in ["0:1", "1:1", "0:0", "0:10", f"0:{NINES}"]:
            # One person makes no table.
            self.assert_bad(state_in, text)

    def test_all_texts_of_few_signs(self):
        found = 0
        for length in range(8):
            for signs in itertools.product("01: ", repeat=length):
                text = "".join(signs)
                words = [word.split(":") for word in text.split(" ")]
                if self.is_good(words):
                    found += 1
                    wanted = (tuple(int(word[0]) for word in words),
                              tuple(int(word[1]) for word in words))
                    self.assert_exact(state_in(text), wanted)
                    self.assert_exact(state_text(wanted), text)
                else:
                    with self.assertRaises(BadText):
                        state_in(text)
        self.assertEqual(found, 8)

    def is_good(self, words):
        """Whether these are the words of two people, each a seat and a purse of one digit."""
        return sorted(word[0] for word in words) == ["0", "1"] and all(
            len(word) == 2 and word[1] in ("0", "1") for word in words)

    def test_lists_for_tuples_and_names(self):
        self.assert_any_shape(state_text, [RICH], ["state"], "0:2 1:0 2:1")
        self.assert_exact(state_in(text="1:0 0:3"), ((1, 0), (0, 3)))

    def test_a_long_text(self):
        many = 3000
        state = (tuple(reversed(range(many))), (MOST_COINS,) * many)
        self.assert_exact(state_in(state_text(state)), state)
        self.assert_bad(state_in, state_text(state) + " 0:0")
        self.assert_bad(state_in, "0" * 10 ** 6)

    def test_purses_of_any_size_can_be_written(self):
        for digits in (51, 64, 65, 128, 129, 640, 4299):
            for coins in (10 ** digits, 10 ** digits - 1, 10 ** digits + 7 * 10 ** 40 + 5):
                self.assert_exact(state_text(((1, 0), (coins, 0))), f"1:{coins} 0:0")
        self.assertEqual(state_text(((0, 1), (10 ** 9000, 0))), "0:1" + "0" * 9000 + " 1:0")


class RowTest(Refusals, unittest.TestCase):
    def test_examples(self):
        self.assert_exact([row_text([0, 2]), row_in("-")], ["0 2", []])

    def test_there_and_back(self):
        chance = random.Random(2)
        for length in [*range(1, 60), 200]:
            for most in (1, 12, 10 ** 20, 10 ** 50 - 1):
                row = [chance.choice((0, most, chance.randint(0, most))) for _ in range(length)]
                self.assert_exact(row_text(row), " ".join(map(str, row)))
                self.assert_exact(row_in(row_text(row)), row)
        self.assert_exact(row_text([]), "-")
        self.assert_exact(row_in("0"), [0])
        self.assert_exact(row_in(NINES), [10 ** 50 - 1])

    def test_no_rows(self):
        for word in NO_NUMBERS:
            for text in [word, f"{word} 1", f"1 {word}", f"1 {word} 2", f"{word} {word}"]:
                if text != "-":
                    self.assert_bad(row_in, text)
        for good in ("0", "0 1", "5 7 0 12", NINES):
            self.assert_all_bad(row_in, good)
        for text in ["- -", "--", " -", "- ", "-\n", "0 -", "- 0", "?", "0:1", "0 ?", "[0, 1]"]:
            self.assert_bad(row_in, text)

    def test_lists_for_tuples_and_names(self):
        self.assert_any_shape(row_text, [[0, 2, 10 ** 42]], ["row"], "0 2 1" + "0" * 42)
        self.assert_any_shape(row_text, [[]], ["row"], "-")
        self.assert_exact(row_in(text="4 4"), [4, 4])

    def test_a_returned_list_is_new(self):
        for text, wanted in [("-", []), ("1 2", [1, 2])]:
            row_in(text).append(5)
            self.assert_exact(row_in(text), wanted)


class WishTest(Refusals, unittest.TestCase):
    def test_examples(self):
        self.assert_exact(wish_text(((0, None), (None, 7))), "0:? ?:7")
        self.assert_exact(wish_in("?:? 4:0"), ((None, None), (4, 0)))

    def test_there_and_back(self):
        chance = random.Random(3)
        for many in range(2, 41):
            for most in (0, 1, many, 10 ** 42, 10 ** 50 - 1):
                wish = tuple((chance.choice((None, 0, chance.randint(0, most))),
                              chance.choice((None, most, chance.randint(0, most))))
                             for _ in range(many))
                wanted = " ".join(f"{seat}:{coins}" for seat, coins in wish).replace("None", "?")
                self.assert_exact(wish_text(wish), wanted)
                self.assert_exact(wish_in(wanted), wish)

    def test_wishes_that_no_state_meets_are_read_too(self):
        self.assert_exact(wish_in("5:1 5:1"), ((5, 1), (5, 1)))
        self.assert_exact(wish_in(f"{NINES}:{NINES} ?:?"), ((10 ** 50 - 1,) * 2, (None, None)))

    def test_no_wishes(self):
        for text in ["?:?", "0:1", "?:0", "0:?"]:
            # One item makes no wish.
            self.assert_bad(wish_in, text)
        for word in [*NO_NUMBERS, "??", "?1", "1?", "? "]:
            for text in [f"{word}:1 0:2", f"1:{word} 0:2", f"?:1 {word}:?", f"?:? ?:{word}"]:
                self.assert_bad(wish_in, text)
        for good in ("0:? ?:2", "?:? ?:? ?:?", "1:1 1:1"):
            self.assert_all_bad(wish_in, good)
        for text in ["? ?", "?", "?:?:? ?:?", "?:?: ?:?", "?::? ?:?", "-", "- -", "?:? -", "-:- ?:?",
                     "?:? ?", ": ?:?", ":"]:
            self.assert_bad(wish_in, text)

    def test_lists_for_tuples_and_names(self):
        self.assert_any_shape(wish_text, [((0, None), (None, 7))], ["wish"], "0:? ?:7")
        self.assert_exact(wish_in(text="1:? 0:?"), ((1, None), (0, None)))


if __name__ == "__main__":
    unittest.main()
