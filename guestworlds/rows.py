"""Things, the numbers and rows that lie in cells, and what they are worth."""

LAST_NUMBER = 999

# Each word of a row, with the highest number that may stand at each place behind it:
# 3 for a box, 999 for a number. enter reads three boxes in a row, so it begins at 0 or 1.
LIMITS = {
    "put": (3, 999),
    "add": (3, 3, 3),
    "less": (3, 3, 3),
    "load": (3, 3),
    "store": (3, 3),
    "zero": (3, 999),
    "go": (999,),
    "call": (999,),
    "say": (3,),
    "hear": (3,),
    "which": (3,),
    "room": (3,),
    "enter": (1,),
    "alarm": (3,),
    "stop": (),
}

# The machine's own rows, in the order in which a kind tells of them.
OWN = ("say", "hear", "which", "room", "enter", "alarm", "stop")


def is_number(value, least, most):
    """Tells whether a value is a number from least to most."""
    # Python takes True and False for numbers; here they are none.
    return isinstance(value, int) and not isinstance(value, bool) and least <= value <= most


def is_row(value):
    """Tells whether a value is a row: a tuple of a word and of the numbers that belong to it."""
    if not isinstance(value, tuple) or len(value) == 0:
        return False
    word = value[0]
    numbers = value[1:]
    if word not in LIMITS or len(numbers) != len(LIMITS[word]):
        return False
    return all([is_number(number, 0, most) for number, most in zip(numbers, LIMITS[word])])


def is_thing(value):
    """Tells whether a value can lie in a cell."""
    return is_number(value, 0, LAST_NUMBER) or is_row(value)


def worth(thing):
    """Tells what a thing is worth: a number itself, a row 0."""
    return 0 if isinstance(thing, tuple) else thing
