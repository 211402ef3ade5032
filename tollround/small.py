"""Small lots, found by a search through all exchanges."""

from tollround.counting import lot_many
from tollround.errors import TooMany
from tollround.leading import check_leads
from tollround.most import MOST
from tollround.moves import exchanged, exchanges
from tollround.states import as_tuples


def all_states(state):
    """Return the ascending list of the STATEs of the lot."""
    many = lot_many(state)
    if many > MOST:
        raise TooMany(many)
    start = as_tuples(state)
    found = {start: True}
    queue = [start]
    while queue:
        present = queue.pop()
        for behind in neighbours(present):
            if behind not in found:
                found[behind] = True
                queue.append(behind)
    return sorted(found)


def neighbours(state):
    """Return the list of the STATEs that are one exchange away."""
    return [exchanged(state, seat) for seat in exchanges(state)]


def links_of(states):
    """Return for each STATE of the whole lot the numbers of those one exchange away."""
    numbers = {state: number for number, state in enumerate(states)}
    return [[numbers[behind] for behind in neighbours(state)] for state in states]


def layers_of(links, start):
    """Return the lists of the numbers at the distances 0, 1, 2, and so on from start."""
    found = {start: True}
    layers = [[start]]
    while layers[-1]:
        layers.append(next_layer(links, layers[-1], found))
    return layers[:-1]


def next_layer(links, layer, found):
    """Return the list of the numbers that are first found behind the layer, and note them."""
    fresh = []
    for number in layer:
        for behind in links[number]:
            if behind not in found:
                found[behind] = True
                fresh.append(behind)
    return fresh


def spheres(state):
    """Return the list of the numbers of STATEs at the distances 0, 1, 2, and so on."""
    states = all_states(state)
    layers = layers_of(links_of(states), states.index(as_tuples(state)))
    return [len(layer) for layer in layers]


def farthest(state):
    """Return the greatest distance of a STATE of the lot from the STATE."""
    return len(spheres(state)) - 1


def width(state):
    """Return the greatest distance of any two STATEs of the lot."""
    links = links_of(all_states(state))
    return max([len(layers_of(links, start)) for start in range(len(links))]) - 1


def ways_many(one, other):
    """Return how many shortest ROWs lead from one to other."""
    check_leads(one, other)
    states = all_states(one)
    links = links_of(states)
    start = states.index(as_tuples(one))
    ways = {start: 1}
    for layer in layers_of(links, start)[1:]:
        # Of those one exchange away only the ones in the layer before have ways so far.
        found = {number: sum([ways.get(before, 0) for before in links[number]])
                 for number in layer}
        ways.update(found)
    return ways[states.index(as_tuples(other))]
