"""Guests of many sorts, made from a seed."""

from random import Random

from tests.programs import OWN, low_cells

# The numbers at the places behind each word: b for a box, 2 for one of the first two, n for an address.
PLACES = {
    "put": "bn", "add": "bbb", "less": "bbb", "load": "bb", "store": "bb", "zero": "bn", "go": "n", "call": "n",
    "say": "b", "hear": "b", "which": "b", "room": "b", "enter": "2", "alarm": "b", "stop": "",
}
WORDS = tuple(PLACES) + tuple(word for word in OWN if word != "stop") * 2


def some_number(chance):
    return chance.choice((chance.randrange(20), chance.randrange(45), chance.randrange(1000), chance.randrange(4)))


def some_row(chance):
    word = chance.choice(WORDS)
    limits = {"b": 4, "2": 2}
    return (word, *(chance.randrange(limits[place]) if place in limits else some_number(chance)
                    for place in PLACES[word]))


def some_things(chance, many):
    return [some_row(chance) if chance.random() < 0.8 else some_number(chance) for _ in range(many)]


def some_ear(chance):
    return [some_number(chance) for _ in range(chance.randrange(21))]


def some_cells(chance):
    """Cells that are of any sort, or that come to be low, and are led back into low by what is caught there."""
    if chance.random() < 0.25:
        return some_things(chance, chance.randrange(16, 41))
    rows = some_things(chance, chance.randrange(3, 20))
    alarm = chance.choice((0, 0, 1, 2, 5, 30))
    first, size = chance.choice(((20, 20), (20, 20), (20, 7), (18, 22), (0, 40)))
    place = 20 - first
    handler = chance.choice((10, 10, 10, 14, 16, 20, chance.randrange(60)))
    cells = low_cells(rows, first=first, size=size, place=place, alarm=alarm, handler=handler)
    if chance.random() < 0.5:
        # Behind what is caught it says a box, hears, and is low again at the next place.
        cells[5] = 30
        cells[30:40] = [("say", 3), ("hear", 3), ("put", 2, 0), ("load", 2, 2), ("put", 1, 1), ("add", 2, 2, 1),
                        ("put", 0, first), ("put", 1, size), ("enter", 0), ("stop",)]
    return cells


def chance_of(*seed):
    return Random(repr(seed))
