"""A desk that answers the lines of a text, each a request to one party."""

from tollround.counting import state_number
from tollround.errors import (
    BadLine, BadText, Barred, Empty, Few, Full, NoPerson, NoSeat, OtherPeople, Stops,
)
from tollround.leading import distance
from tollround.party import Party
from tollround.passes import passes_many
from tollround.texts import number_in, number_text, row_in, state_in, state_text, wish_in
from tollround.wishes import wish_many


def answer_at(party, seat):
    """Return the person who paid for the exchange at the seat."""
    return number_text(party.exchange(seat))


def answer_run(party, row):
    """Return the number of exchanges of the ROW."""
    return number_text(party.run(row))


def answer_again(party, many, row):
    """Return the STATE after so many passes."""
    check_seats(party, row)
    party.again(row, many)
    return state_text(party.state())


def check_seats(party, row):
    """Raise NoSeat if a seat of the ROW is not at the table."""
    for seat in row:
        if seat >= len(party):
            raise NoSeat(seat)


def answer_go(party, goal):
    """Return how far the goal was."""
    return number_text(party.go(goal))


def answer_give(party, person, coins):
    """Return the coins in the purse then."""
    return number_text(party.give(person, coins))


def answer_take(party, person, coins):
    """Return the coins left in the purse."""
    return number_text(party.take(person, coins))


def answer_come(party, coins):
    """Return how many people there are then."""
    return number_text(party.come(coins))


def answer_leave(party, person):
    """Return the coins that leave with the person."""
    return number_text(party.leave(person))


def answer_undo(party):
    """Return whether there was a deed to undo."""
    return "done" if party.undo() else "nothing"


def answer_show(party):
    """Return the STATE."""
    return state_text(party.state())


def answer_lot(party):
    """Return the number of STATEs in the lot."""
    return number_text(party.lot())


def answer_number(party):
    """Return the number of the present STATE in its lot."""
    return number_text(state_number(party.state(), party.state()))


def answer_passes(party, row):
    """Return how many passes can be done."""
    check_seats(party, row)
    many = passes_many(party.state(), row)
    return "endless" if many is None else number_text(many)


def answer_wish(party, wish):
    """Return how many STATEs of the lot meet the WISH."""
    return number_text(wish_many(party.state(), wish))


def answer_far(party, goal):
    """Return how far the goal is."""
    return number_text(distance(party.state(), goal))


ANSWERS = {
    "at": answer_at, "run": answer_run, "again": answer_again, "go": answer_go,
    "give": answer_give, "take": answer_take, "come": answer_come, "leave": answer_leave,
    "undo": answer_undo, "show": answer_show, "lot": answer_lot, "number": answer_number,
    "passes": answer_passes, "wish": answer_wish, "far": answer_far,
}

# How many numbers follow the word, and what the rest of the line is the text of.
FORMS = {
    "at": (1, None), "run": (0, "row"), "again": (1, "row"), "go": (0, "state"),
    "give": (2, None), "take": (2, None), "come": (1, None), "leave": (1, None),
    "undo": (0, None), "show": (0, None), "lot": (0, None), "number": (0, None),
    "passes": (0, "row"), "wish": (0, "wish"), "far": (0, "state"),
}


def answers(text):
    """Return the list of the answers to all lines of the text but the first one."""
    lines = text.split("\n")
    party = Party(first_state(lines[0]))
    # All lines are read before any is answered.
    requests = [request_at(lines, at) for at in range(1, len(lines))]
    return [answer(party, word, values) for word, values in requests]


def first_state(line):
    """Return the STATE of the first line."""
    try:
        return state_in(line)
    except BadText:
        raise BadLine(0) from None


def request_at(lines, at):
    """Return the request in the line with this index."""
    try:
        return request_in(lines[at])
    except BadText:
        raise BadLine(at) from None


def request_in(line):
    """Return the pair of the word of the line and the list of the values behind it.

    Raises BadText if the line is not of one of the forms.
    """
    word, *parts = line.split(" ")
    if word not in FORMS:
        raise BadText(line)
    many, kind = FORMS[word]
    if len(parts) < many or (kind is None and len(parts) > many):
        raise BadText(line)
    numbers = [number_in(part) for part in parts[:many]]
    if kind is None:
        return (word, numbers)
    return (word, [*numbers, value_in(kind, " ".join(parts[many:]))])


def value_in(kind, text):
    """Return the ROW, the STATE or the WISH with this text."""
    if kind == "row":
        return row_in(text)
    if kind == "state":
        return state_in(text)
    return wish_in(text)


def answer(party, word, values):
    """Return the answer to a request, also if it is refused."""
    action = ANSWERS[word]
    try:
        return action(party, *values)
    except NoPerson:
        return "refused NoPerson"
    except NoSeat:
        return "refused NoSeat"
    except OtherPeople:
        return "refused OtherPeople"
    except Empty:
        return "refused Empty"
    except Barred:
        return "refused Barred"
    except Stops:
        return "refused Stops"
    except Few:
        return "refused Few"
    except Full:
        return "refused Full"
