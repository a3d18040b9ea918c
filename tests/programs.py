"""Machines and cells that several tests begin with."""

from guestworlds.machine import Machine

OWN = ("say", "hear", "which", "room", "enter", "alarm", "stop")
NONE = (False,) * 7
ALL = (True,) * 7
NAMES = ("cells", "boxes", "place", "high", "window", "alarm", "said", "ear", "why", "steps")

# How many steps low_machine has done when it comes to be low.
STEPS_TO_LOW = 7


def only(*words):
    """A kind that catches just these of the machine's own rows."""
    return tuple(word in words for word in OWN)


def filled(rows, many=16):
    """Cells that begin with these rows, and hold 0 behind them."""
    return list(rows) + [0] * (many - len(rows))


def told(machine):
    """What is carried, by names."""
    return dict(zip(NAMES, machine.carried(), strict=True))


def high_machine(rows, ear=(), kind=NONE, many=16):
    return Machine(kind, filled(rows, many), list(ear))


def behind(rows, steps, ear=(), kind=NONE):
    """What is carried of a machine in high behind so many steps."""
    machine = high_machine(rows, ear, kind)
    machine.go(steps)
    return told(machine)


def low_cells(rows, first=20, size=20, place=0, alarm=0, handler=16):
    """Forty cells: a way into low, where the rows stand at cell 20, and a handler at cell 16."""
    cells = [0] * 40
    cells[0] = ("go", 10)
    cells[5] = handler
    cells[10:17] = [
        ("put", 3, alarm), ("alarm", 3), ("put", 0, first), ("put", 1, size), ("put", 2, place),
        ("enter", 0), ("stop",),
    ]
    cells[20:20 + len(rows)] = rows
    return cells


def low_machine(rows, kind=NONE, ear=(), **more):
    """A machine that has just come to be low; its boxes hold 20, 20, 0 and the alarm, if not told."""
    machine = Machine(kind, low_cells(rows, **more), list(ear))
    machine.go(STEPS_TO_LOW)
    return machine
