"""STATEs, ROWs and WISHes as texts, there and back."""

from tollround.errors import BadText
from tollround.states import is_state

DIGITS = "0123456789"
MOST_DIGITS = 50
# They stand for None and for a ROW without seats.
GAP = "?"
NOTHING = "-"
# Python refuses to write out numbers of very many digits at once.
PART_DIGITS = 64
PART = 10 ** 64


def number_text(number):
    """Return the digits of the number, which is at least 0 and of any size."""
    parts = []
    left = number
    while left >= PART:
        left, part = divmod(left, PART)
        parts.append(str(part).zfill(PART_DIGITS))
    parts.append(str(left))
    return "".join(parts[::-1])


def item_text(item):
    """Return the text of a number or of None."""
    return GAP if item is None else number_text(item)


def pairs_text(pairs):
    """Return the text of a list of pairs of numbers and None."""
    return " ".join([f"{item_text(seat)}:{item_text(coins)}" for seat, coins in pairs])


def state_text(state):
    """Return the text of the STATE."""
    seats, purses = state
    return pairs_text(list(zip(seats, purses)))


def row_text(row):
    """Return the text of the ROW, which has no negative integers."""
    return " ".join([number_text(seat) for seat in row]) if len(row) > 0 else NOTHING


def wish_text(wish):
    """Return the text of the WISH."""
    return pairs_text(wish)


def is_number(word):
    """Tell whether the word is the text of a number."""
    if word == "" or len(word) > MOST_DIGITS:
        return False
    if word[0] == "0" and word != "0":
        return False
    return all([sign in DIGITS for sign in word])


def is_item(word):
    """Tell whether the word is the text of a number or of None."""
    return word == GAP or is_number(word)


def item_in(word):
    """Return the number or None with this text."""
    return None if word == GAP else int(word)


def number_in(text):
    """Return the number with this text."""
    if not is_number(text):
        raise BadText(text)
    return int(text)


def pairs_in(text):
    """Return the list of the pairs of numbers and None with this text."""
    found = []
    for word in text.split(" "):
        # Without a colon nothing stands behind it, and a second one is in no number.
        seat, _, coins = word.partition(":")
        if not is_item(seat) or not is_item(coins):
            raise BadText(text)
        found.append((item_in(seat), item_in(coins)))
    return found


def state_in(text):
    """Return the STATE with this text."""
    pairs = pairs_in(text)
    state = (tuple([seat for seat, _ in pairs]), tuple([coins for _, coins in pairs]))
    # None is in no STATE.
    if not is_state(state):
        raise BadText(text)
    return state


def row_in(text):
    """Return the ROW with this text."""
    if text == NOTHING:
        return []
    words = text.split(" ")
    if not all([is_number(word) for word in words]):
        raise BadText(text)
    return [int(word) for word in words]


def wish_in(text):
    """Return the WISH with this text."""
    pairs = pairs_in(text)
    if len(pairs) < 2:
        raise BadText(text)
    return tuple(pairs)
