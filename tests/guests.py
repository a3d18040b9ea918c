"""Hosts and guests that several tests begin with."""

from guestworlds.ground import Ground
from guestworlds.host import Host
from guestworlds.machine import Machine
from tests.programs import ALL, NAMES, STEPS_TO_LOW, filled, low_cells

WAYS = ("plain", "through")
COUNTING = filled([("put", 1, 1), ("add", 0, 0, 1), ("say", 0), ("hear", 2), ("go", 1)])
STOPPING = filled([("stop",)])


def new_host(kind=ALL, way="plain", wide=100):
    return Host(Ground(kind, wide), way)


def marked(mark, many=16):
    """Cells that are known by the number in all of them."""
    return [mark] * many


def guest_told(host, number):
    """What is carried of a guest, by names."""
    return dict(zip(NAMES, host.carried(number), strict=True))


def alone(kind, cells, ear, steps):
    """What is carried of the machine alone behind so many steps."""
    machine = Machine(kind, cells, ear)
    while steps > 400:
        machine.go(400)
        steps -= 400
    machine.go(steps)
    return machine.carried()


def low_guest(host, rows, ear=(), **more):
    """A guest that has just come to be low; the host's kind must let it come there."""
    number = host.come(low_cells(rows, **more), list(ear), 1)
    assert host.go(number, STEPS_TO_LOW) == STEPS_TO_LOW
    return number


def low_bundle(rows, ear=(), kind=ALL, **more):
    """What is carried of a machine that has just come to be low."""
    return alone(kind, low_cells(rows, **more), list(ear), STEPS_TO_LOW)
