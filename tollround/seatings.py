"""In which ways the people of a lot can sit, without going through the ways.

Somebody with a given residue has, on a given seat, residue - seat coins and
maybe some rounds more, a round being as many coins as there are people. On a
seat above the residue one round more is needed for the purse not to be below 0:
the person *wraps*. In all STATEs of a lot the number of people who wrap and the
other rounds in the purses add up to the same number, the rounds of the lot.
The marks of the functions are the residues of the people.
"""

from tollround.spreads import spreads_many


def rounds_of(marks, coins):
    """Return the rounds of the lot with these residues and this total.

    It is None if no STATE has them.
    """
    size = len(marks)
    over = coins - sum(marks) + size * (size - 1) // 2
    if over < 0 or over % size != 0:
        return None
    return over // size


def wraps_many(marks, seats):
    """Return how many of the people on these seats wrap."""
    return len([seat for mark, seat in zip(marks, seats) if seat > mark])


def spare_rounds(marks, rounds, seats):
    """Return the rounds of the lot without those of the people on these seats who wrap."""
    return rounds - wraps_many(marks, seats)


def seat_counts(marks, rounds, seats):
    """Return the pairs of a seat of the next person and how many STATEs have it.

    It is told where the people before this one sit. The seats ascend.
    """
    size, person = len(marks), len(seats)
    free = [seat for seat in range(size) if seat not in seats]
    behind = sorted(marks[person + 1:])
    spare = spare_rounds(marks, rounds, seats)
    spreads = [spreads_many(spare - wraps, size) for wraps in range(len(free) + 1)]
    found = []
    for seat in free:
        others = [other for other in free if other != seat]
        own = wraps_many([marks[person]], [seat])
        counts = seatings_by_wraps(behind, others)
        found.append((seat, sum([many * spreads[own + wraps] for wraps, many in enumerate(counts)])))
    return found


def seatings_by_wraps(marks, seats):
    """Return the list of the numbers of seatings in which 0, 1, 2, .. people wrap.

    The marks are the ascending residues of as many people as there are seats.
    """
    counts = [1]
    for index, mark in enumerate(marks):
        below = len([seat for seat in seats if seat <= mark])
        counts = with_one_more(counts, below - index)
    return counts


def with_one_more(counts, room):
    """Return the numbers of seatings by wraps when one more person sits down.

    The person has the greatest residue so far, and room is the number of seats at
    or below it, less the number of people before. There is one more seat, above
    all others: the person takes any seat, and whoever sat there moves to the new
    one and wraps there. Those who do not wrap all sit at or below the residue, so
    room + wraps seats there are left to the others: if the person takes one of
    these, nobody begins to wrap; on any other seat it is one person more.
    """
    # As long as seats are still missing, numbers may be below 0, and only this is
    # sure: for any z from 0, the sum of found[w] * comb(z - w + r, r), r being the number
    # of people, is the product of z + room over all of them. That settles the
    # numbers when the last person sits down, too.
    found = [0] * (len(counts) + 1)
    for wraps, many in enumerate(counts):
        found[wraps] += many * (wraps + room)
        found[wraps + 1] += many * (len(counts) - wraps - room)
    return found
