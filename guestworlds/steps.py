"""The steps of a body: what is caught in one, and else what its row does."""

from guestworlds.rows import OWN, worth

# What is caught, by the number that is laid into cell 3 for it.
NOTHING = 0
OWN_ROW = 1
BEYOND = 2
NO_ROW = 3
ALARM = 4
CALL = 5

# Why a machine stops in which something is caught in high, where nothing else is caught.
WHYS = {2: "beyond", 3: "no row"}


def let_go(body, many):
    """Does so many steps, or fewer if the body stops, and tells how many."""
    done = 0
    while done < many and body.why == "":
        do_step(body)
        done += 1
    return done


def do_step(body):
    """Does the row that lies at the place, or what follows if something is caught there."""
    body.steps += 1
    number = caught_at_place(body)
    if number == NOTHING:
        do_row(body, row_at_place(body))
    else:
        catch(body, number)


def box_worth(body, box):
    """Tells what the thing in a box is worth."""
    return worth(body.boxes[box])


def is_beyond(body, address):
    """Tells whether an address has no cell in the window."""
    return address >= body.window[1]


def cell_of(body, address):
    """Tells which of all its cells is the one of an address that isn't beyond."""
    return body.window[0] + address


def row_at_place(body):
    """Tells what lies at the place, which isn't beyond."""
    return body.room.thing_at(cell_of(body, body.place))


def caught_at_place(body):
    """Tells the number of what is caught before the row at the place is done, or NOTHING."""
    if is_beyond(body, body.place):
        return BEYOND
    row = row_at_place(body)
    if not isinstance(row, tuple):
        return NO_ROW
    if reaches_beyond(body, row):
        return BEYOND
    return NOTHING if body.high else caught_in_low(body.kind, row[0])


def reaches_beyond(body, row):
    """Tells whether a row loads from, or stores at, an address that is beyond."""
    if row[0] == "load":
        return is_beyond(body, box_worth(body, row[2]))
    return row[0] == "store" and is_beyond(body, box_worth(body, row[1]))


def caught_in_low(kind, word):
    """Tells the number by which a row of this word is caught in low, or NOTHING."""
    if word == "call":
        return CALL
    if word in OWN and kind[OWN.index(word)]:
        return OWN_ROW
    return NOTHING


def catch(body, number):
    """Stops a body that is high; makes one that is low high."""
    if body.high:
        body.why = WHYS[number]
        return
    called = 0
    if number == CALL:
        called = row_at_place(body)[1]
        body.place += 1
    make_high(body, number, called)


def make_high(body, number, called):
    """Lays into the first cells how the body was in low, and goes on where cell 5 tells."""
    body.room.put_things(0, [body.place, body.window[0], body.window[1], number, called])
    body.room.put_things(6, body.boxes)
    body.high = True
    body.window = (0, body.room.wide)
    body.alarm = 0
    body.place = worth(body.room.thing_at(5))


def do_row(body, row):
    """Does a row that isn't caught."""
    in_low = not body.high
    # The rows that go elsewhere change the place again.
    body.place += 1
    act(body, row)
    if in_low:
        lessen_alarm(body)


def lessen_alarm(body):
    """Lessens an alarm behind a row that was done in low, and catches what runs out."""
    if body.alarm > 0:
        body.alarm -= 1
        if body.alarm == 0:
            catch(body, ALARM)


def do_put(body, box, number):
    body.boxes[box] = number


def do_add(body, box, one, other):
    body.boxes[box] = (box_worth(body, one) + box_worth(body, other)) % 1000


def do_less(body, box, one, other):
    body.boxes[box] = (box_worth(body, one) - box_worth(body, other)) % 1000


def do_load(body, box, pointer):
    body.boxes[box] = body.room.thing_at(cell_of(body, box_worth(body, pointer)))


def do_store(body, pointer, box):
    body.room.put_things(cell_of(body, box_worth(body, pointer)), [body.boxes[box]])


def do_zero(body, box, place):
    if box_worth(body, box) == 0:
        body.place = place


def do_go(body, place):
    body.place = place


def do_nothing(body, *numbers):
    """Does what a call does in high, and some of the machine's own rows in low."""


def do_say(body, box):
    body.spoken.append(box_worth(body, box))


def do_hear(body, box):
    body.boxes[box] = body.ear.pop(0) if len(body.ear) > 0 else 0


def do_which_in_high(body, box):
    body.boxes[box] = 1


def do_which_in_low(body, box):
    body.boxes[box] = 0


def do_room(body, box):
    body.boxes[box] = body.window[1]


def do_enter(body, box):
    first = box_worth(body, box)
    size = box_worth(body, box + 1)
    if first + size > body.room.wide:
        body.why = "window"
        # A window that can't be leaves the place at the row itself.
        body.place -= 1
        return
    body.window = (first, size)
    body.place = box_worth(body, box + 2)
    body.high = False


def do_alarm(body, box):
    body.alarm = box_worth(body, box)


def do_stop(body):
    body.why = "stop"


def do_say_to_ground(body, box):
    body.ground.spoken.append(box_worth(body, box))


def do_hear_nothing(body, box):
    body.boxes[box] = 0


# The rows that do the same in high and in low; a call in low is always caught.
ACTIONS = {
    "put": do_put,
    "add": do_add,
    "less": do_less,
    "load": do_load,
    "store": do_store,
    "zero": do_zero,
    "go": do_go,
    "call": do_nothing,
}

OWN_IN_HIGH = {
    "say": do_say,
    "hear": do_hear,
    "which": do_which_in_high,
    "room": do_room,
    "enter": do_enter,
    "alarm": do_alarm,
    "stop": do_stop,
}

OWN_IN_LOW = {
    "say": do_say,
    "hear": do_hear,
    "which": do_which_in_low,
    "room": do_room,
    "enter": do_nothing,
    "alarm": do_nothing,
    "stop": do_nothing,
}

# What a ground does otherwise than a machine in low, for the guests upon it.
OWN_BY_GROUND = {
    "say": do_say_to_ground,
    "hear": do_hear_nothing,
}


def act(body, row):
    """Does what a row's word tells."""
    word, *numbers = row
    action = ACTIONS[word] if word in ACTIONS else own_action(body, word)
    action(body, *numbers)


def own_action(body, word):
    """Tells what does one of the machine's own rows: in high, in low, or in low by the ground."""
    if is_done_by_ground(body, word):
        return OWN_BY_GROUND[word] if word in OWN_BY_GROUND else OWN_IN_LOW[word]
    return OWN_IN_HIGH[word] if body.high else OWN_IN_LOW[word]


def is_done_by_ground(body, word):
    """Tells whether one of the machine's own rows of a guest is done by the ground, which doesn't catch it."""
    if body.ground is None or caught_in_low(body.kind, word) == OWN_ROW:
        return False
    return not (body.high and body.through)
