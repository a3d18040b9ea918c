"""Point 12: turns."""

import unittest
from fractions import Fraction

from guestworlds.errors import BadCount
from guestworlds.host import Host
from tests.guests import COUNTING, STOPPING, WAYS, alone, guest_told, new_host
from tests.programs import ALL, NONE, filled
from tests.worlds import chance_of

ENDLESS = filled([("go", 0)])


def stopping_behind(many):
    """Cells of a guest that does so many steps, and stops by the last of them."""
    return filled([("put", 0, 1)] * (many - 1) + [("stop",)], 40)


def shared(*shares, cells=ENDLESS, way="plain"):
    """A host with a guest of each share."""
    host = new_host(way=way, wide=200)
    for share in shares:
        host.come(cells, [], share)
    return host


def expected_turns(guests, many, each):
    """What turn tells of guests, dicts of number, share, steps done, and steps left until they stop."""
    turns = []
    while many > 0:
        ready = [guest for guest in guests if guest["left"] > 0]
        if not ready:
            break
        guest = min(ready, key=lambda one: (Fraction(one["steps"], one["share"]), one["number"]))
        done = min(each, many, guest["left"])
        guest["steps"] += done
        guest["left"] -= done
        many -= done
        turns.append((guest["number"], done))
    return turns


class Counts(unittest.TestCase):
    def test_counts_that_can_be(self):
        for many in (0, 1, 20, 399, 400):
            for each in (1, 2, 19, 20):
                host = shared(1, 1)
                turns = host.turn(many, each)
                self.assertEqual(sum(done for _, done in turns), many)
                self.assertEqual(sum(host.carried(number)[9] for number in (0, 1)), many)
                self.assertEqual([done for _, done in turns[:-1]], [each] * (len(turns) - 1))

    def test_counts_that_cant_be(self):
        host = shared(1, 2)
        host.turn(7, 2)
        before = [host.carried(0), host.carried(1), host.ground.all_cells()]
        for many, each in ((-1, 1), (401, 1), (1000, 5), (-400, 5), (5, 0), (5, 21), (5, -1), (0, 0), (0, 21),
                           (401, 21), (-1, 0), (True, 1), (5, True), (False, 5), (5, False)):
            with self.subTest((many, each)):
                self.assertRaises(BadCount, host.turn, many, each)
                self.assertEqual([host.carried(0), host.carried(1), host.ground.all_cells()], before)

    def test_counts_are_refused_where_none_is_there(self):
        self.assertRaises(BadCount, new_host().turn, 401, 1)
        self.assertRaises(BadCount, new_host().turn, 5, 21)

    def test_no_steps(self):
        host = shared(1)
        self.assertEqual(host.turn(0, 20), [])
        self.assertEqual(host.carried(0), alone(ALL, ENDLESS, [], 0))


class Order(unittest.TestCase):
    def test_one_alone(self):
        self.assertEqual(shared(3).turn(7, 3), [(0, 3), (0, 3), (0, 1)])

    def test_like_shares(self):
        self.assertEqual(shared(1, 1).turn(5, 1), [(0, 1), (1, 1), (0, 1), (1, 1), (0, 1)])
        self.assertEqual(shared(4, 4, 4).turn(10, 3), [(0, 3), (1, 3), (2, 3), (0, 1)])

    def test_unlike_shares(self):
        self.assertEqual(shared(1, 2).turn(6, 1), [(0, 1), (1, 1), (1, 1), (0, 1), (1, 1), (1, 1)])
        self.assertEqual(shared(1, 9).turn(12, 1), [(0, 1)] + [(1, 1)] * 9 + [(0, 1), (1, 1)])
        self.assertEqual(shared(9, 1).turn(12, 1), [(0, 1), (1, 1)] + [(0, 1)] * 8 + [(0, 1), (1, 1)])

    def test_a_tie_is_the_least_number_s(self):
        # 2 steps by a share of 2, and 3 by one of 3, are as many.
        host = shared(3, 2)
        host.go(1, 2)
        host.go(0, 3)
        self.assertEqual(host.turn(1, 1), [(0, 1)])
        host = shared(2, 3)
        host.go(0, 2)
        host.go(1, 3)
        self.assertEqual(host.turn(1, 1), [(0, 1)])

    def test_nothing_is_rounded(self):
        # 8/9 and 7/8 are both 0 if they are rounded down, and 1 if rounded up.
        host = shared(9, 8)
        host.go(0, 8)
        host.go(1, 7)
        self.assertEqual(host.turn(2, 1), [(1, 1), (0, 1)])
        host = shared(7, 9)
        host.go(0, 388)
        host.go(1, 400)
        host.go(1, 98)
        # 388/7 is 3492/63, 498/9 is 3486/63.
        self.assertEqual(host.turn(2, 1), [(1, 1), (0, 1)])

    def test_by_numbers_and_not_by_rooms(self):
        host = shared(1, 1)
        host.move(0, 100)
        self.assertEqual(host.turn(2, 1), [(0, 1), (1, 1)])

    def test_by_any_shares(self):
        for seed in range(200):
            chance = chance_of("turns", seed)
            host = new_host(wide=200)
            guests = []
            for number in range(chance.randrange(1, 5)):
                share = chance.randrange(1, 10)
                left = chance.choice((1, 2, 5, 17, 39, 10 ** 6))
                host.come(ENDLESS if left > 40 else stopping_behind(left), [], share)
                guests.append({"number": number, "share": share, "steps": 0, "left": left})
            for _ in range(4):
                many, each = chance.randrange(80), chance.randrange(1, 21)
                self.assertEqual(host.turn(many, each), expected_turns(guests, many, each))


class WhatCounts(unittest.TestCase):
    def test_go_counts(self):
        host = shared(1, 1)
        host.go(0, 3)
        self.assertEqual(host.turn(5, 1), [(1, 1), (1, 1), (1, 1), (0, 1), (1, 1)])

    def test_what_it_was_carried_with_counts(self):
        host = shared(1)
        host.lay(alone(ALL, ENDLESS, [], 4), 1)
        self.assertEqual(host.turn(6, 1), [(0, 1)] * 5 + [(1, 1)])
        host = new_host()
        host.lay(alone(ALL, ENDLESS, [], 6), 2)
        host.lay(alone(ALL, ENDLESS, [], 2), 1)
        self.assertEqual(host.turn(3, 1), [(1, 1), (0, 1), (1, 1)])

    def test_turns_before_count(self):
        host = shared(1, 1)
        host.turn(20, 20)
        self.assertEqual(host.turn(21, 10), [(1, 10), (1, 10), (0, 1)])

    def test_one_that_comes_later(self):
        host = shared(1)
        host.turn(5, 5)
        host.come(ENDLESS, [], 1)
        self.assertEqual(host.turn(7, 1), [(1, 1)] * 5 + [(0, 1), (1, 1)])

    def test_each_step_is_its_machine_s(self):
        for way in WAYS:
            host = shared(1, 2, 3, cells=COUNTING, way=way)
            host.turn(100, 7)
            for number in range(3):
                bundle = host.carried(number)
                self.assertEqual(bundle, alone(ALL, COUNTING, [], bundle[9]))

    def test_steps_that_the_ground_did_count(self):
        host = new_host(NONE)
        for _ in range(2):
            host.come([("say", 0)] * 16, [], 1)
        self.assertEqual(host.turn(4, 1), [(0, 1), (1, 1), (0, 1), (1, 1)])
        self.assertEqual(host.ground.said(), [0] * 4)


class Ends(unittest.TestCase):
    def test_none_is_there(self):
        self.assertEqual(new_host().turn(400, 20), [])

    def test_one_that_stops_in_a_turn(self):
        host = new_host()
        host.come(stopping_behind(3), [], 1)
        host.come(ENDLESS, [], 1)
        self.assertEqual(host.turn(30, 5), [(0, 3)] + [(1, 5)] * 5 + [(1, 2)])

    def test_one_that_stops_at_the_end_of_a_turn(self):
        host = new_host()
        host.come(stopping_behind(5), [], 1)
        host.come(ENDLESS, [], 1)
        self.assertEqual(host.turn(11, 5), [(0, 5), (1, 5), (1, 1)])

    def test_all_stop(self):
        host = new_host()
        for many in (3, 1, 6):
            host.come(stopping_behind(many)[:16], [], 1)
        self.assertEqual(host.turn(400, 4), [(0, 3), (1, 1), (2, 4), (2, 2)])
        self.assertEqual(host.turn(400, 4), [])
        self.assertEqual([guest_told(host, number)["why"] for number in range(3)], ["stop"] * 3)

    def test_all_stopped_before(self):
        host = new_host()
        host.come(STOPPING, [], 1)
        host.go(0, 1)
        host.lay(host.carried(0), 1)
        self.assertEqual(host.turn(400, 20), [])

    def test_one_that_stopped_before(self):
        host = shared(9)
        host.come(STOPPING, [], 9)
        host.go(1, 1)
        self.assertEqual(host.turn(4, 2), [(0, 2), (0, 2)])

    def test_one_that_left(self):
        host = shared(1, 1, 1)
        host.leave(1)
        self.assertEqual(host.turn(3, 1), [(0, 1), (2, 1), (0, 1)])


class Busy(unittest.TestCase):
    def test_it_is_passed_by(self):
        host = shared(1, 1, 1)
        host.inner(0)
        self.assertEqual(host.turn(5, 2), [(1, 2), (2, 2), (1, 1)])

    def test_all_are_busy(self):
        host = shared(1, 1)
        host.inner(0)
        host.inner(1)
        self.assertEqual(host.turn(400, 20), [])

    def test_all_others_stopped(self):
        host = shared(1)
        host.come(STOPPING, [], 1)
        host.inner(0)
        self.assertEqual(host.turn(400, 20), [(1, 1)])

    def test_inner_guests_get_no_turn_of_the_outer_host(self):
        host = shared(1, 1)
        inner = Host(host.inner(0), "plain")
        inner.come(COUNTING, [], 9)
        self.assertEqual(host.turn(4, 2), [(1, 2), (1, 2)])
        self.assertEqual(inner.carried(0), alone(ALL, COUNTING, [], 0))
        self.assertEqual(inner.turn(4, 3), [(0, 3), (0, 1)])


class Told(unittest.TestCase):
    def test_the_list_may_be_changed(self):
        host = shared(1)
        turns = host.turn(2, 1)
        turns.clear()
        self.assertEqual(host.turn(1, 1), [(0, 1)])
        self.assertIs(type(host.turn(1, 1)), list)
        self.assertIs(type(host.turn(1, 1)[0]), tuple)
