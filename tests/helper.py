"""What the tests share."""

import itertools
import random
import unittest

from roomward.deeds import Deeds
from roomward.errors import NoWarden, TooMany, WardError
from roomward.houses import House
from roomward.machines import Machine
from roomward.rules import Ahead, Answer, Hold, Most, Never, Turns
from roomward.warden import Warden


class RefusalCase(unittest.TestCase):
    """A test case that can ask for a refusal of just one class."""

    def refused(self, kind, call, *parts):
        """Ask that a call is refused with this class, and no other one; tell the error."""
        with self.assertRaises(ValueError) as caught:
            call(*parts)
        self.assertIs(type(caught.exception), kind)
        self.assertIsInstance(caught.exception, WardError)
        return caught.exception

    def same_machine(self, machine, begin, ends, doors, knows):
        """Ask that a machine is just the told one: all that its methods tell."""
        rooms = sorted({begin, *ends, *(d[0] for d in doors), *(d[2] for d in doors)})
        told = {(room, deed): far for room, deed, far in doors}
        self.assertIsInstance(machine, Machine)
        self.assertEqual(machine.begin(), begin)
        self.assertEqual(machine.rooms(), rooms)
        self.assertEqual(machine.ends(), sorted(ends))
        self.assertEqual(machine.knows(), sorted(knows))
        for room in rooms:
            self.assertEqual(machine.at(room), sorted(deed for near, deed in told if near == room), room)
            self.assertIs(machine.is_end(room), room in ends, room)
            for deed in machine.deeds().names():
                self.assertEqual(machine.to(room, deed), told.get((room, deed)), (room, deed))


# Things of other kinds, some of which can't be a dict's key.
ODD_THINGS = (None, 0, 1, 7, -3, True, False, [], ["a"], (), ("a",), {}, {"a": 1}, 1.5, b"a", object(), str, 10 ** 5000)

# Texts that are no names.
ODD_TEXTS = ("", " ", "1", "1a", "9abc", "A", "aB", "Ab", "ABC", "a b", " a", "a ", "a_b", "_a", "a-b", "a.b", "a\n",
             "\na", "a\t", "a~", "`", "{", "@", "[", "/", ":", "a/", "a:", "a`", "a{", "abcdefghi", "a12345678",
             "abcdefghijklmnop")


# The free ones stand among the others: f0, f1, f2 rising.
DEEDS = Deeds(["bad", "f0", "f1", "f2", "go", "up"], ["f2", "f0", "f1"])


def machine_of(begin, ends, doors, more=None):
    """A machine of these deeds, its doors told by texts: a room, a deed and a room with blanks between."""
    return Machine(DEEDS, begin, list(ends), [tuple(door.split()) for door in doors], more)


def house_of(begin, ends, doors, rules=()):
    """A house of one such machine."""
    return House(DEEDS, [machine_of(begin, ends, doors)], list(rules))


def warden_of(begin, ends, doors, rules=()):
    """The warden of such a house."""
    return Warden(house_of(begin, ends, doors, rules))


def line(deeds, deed, many, ends=None, loops=(), more=None):
    """A machine of so many rooms in a line, s0 s1 .., each led on by the deed; loops are pairs of a room and a deed."""
    rooms = ["s" + str(k) for k in range(many)]
    doors = [(room, deed, far) for room, far in zip(rooms, rooms[1:])]
    return Machine(deeds, "s0", rooms if ends is None else ends, doors + [(r, d, r) for r, d in loops], more)


def ring(deeds, deed, many):
    """A machine of so many rooms, all of them ends, led round by the deed."""
    rooms = ["s" + str(k) for k in range(many)]
    return Machine(deeds, "s0", rooms, [(room, deed, rooms[(k + 1) % many]) for k, room in enumerate(rooms)])


def rows_of(names, longest):
    """All rows of deeds, the shorter ones first, those of one length rising."""
    for length in range(longest + 1):
        yield from (list(row) for row in itertools.product(sorted(names), repeat=length))


def let_rows(warden, longest):
    """All rows of at most so many deeds that a warden lets, the shorter ones first, those of one length rising."""
    rows = [[]]
    for row in rows:
        yield row
        if len(row) < longest:
            rows.extend(row + [deed] for deed in warden.lets(warden.behind(row)))


def some_machine(deeds, seed, most_rooms=4):
    """A machine made up of a number: the same one each time."""
    dice = random.Random(seed)
    names = ["abcdefgh"[k] for k in range(dice.randint(1, most_rooms))]
    known = [deed for deed in deeds.names() if dice.random() < 0.6]
    doors = [(room, deed, dice.choice(names)) for room in names for deed in known if dice.random() < 0.6]
    ends = [room for room in names if dice.random() < 0.5]
    return Machine(deeds, dice.choice(names), ends, doors, known)


def two_rings(tail, one, other, more=()):
    """A machine of so many rooms in a line, then b, then by f1 a ring and by f2 another one; go leads on in all three.

    So who sees go alone has tail + 1 + lcm(one, other) places, and plays to tail + 3 + 2 * lcm(one, other) pairs.
    """
    lined = ["t" + str(k) for k in range(tail)] + ["b"]
    doors = [near + " go " + far for near, far in zip(lined, lined[1:])] + ["b f1 p0", "b f2 q0"]
    for name, many in (("p", one), ("q", other)):
        doors += [f"{name}{k} go {name}{(k + 1) % many}" for k in range(many)]
    rooms = lined + ["p" + str(k) for k in range(one)] + ["q" + str(k) for k in range(other)]
    return machine_of(lined[0], rooms, doors + list(more))


def some_wardens():
    """Wardens of houses made up of numbers, the same ones each time; most of them forbid something."""
    deeds = Deeds(["bad", "f0", "go", "in", "up"], ["f0"])
    kinds = ([Never("bad")], [Most("f0", 1)], [Hold("go", "up")], [Turns("in", "f0")], [], [Answer("go", "f0")],
             [Ahead("up", "f0"), Most("go", 2)], [Most("bad", 1), Hold("f0", "up")], [Answer("bad", "in")])
    for seed in range(400):
        plant = [some_machine(deeds, 5000 + seed * 7 + k, 7 - 2 * (seed % 2)) for k in range(1 + seed % 2)]
        try:
            warden = Warden(House(deeds, plant, kinds[seed % len(kinds)]))
        except (NoWarden, TooMany):
            continue
        rooms = warden.rooms()
        if len(rooms) > 2 and (seed % 5 == 0 or any(warden.forbids(room) for room in rooms)):
            yield warden


# At a go is let and bad forbidden; at b f0 comes and up is let; at c f1 comes and go is forbidden, for f2 behind it.
PLAY_DOORS = ["a go b", "a bad a", "b f0 c", "b up a", "c f1 a", "c go d", "d f2 d"]
PLAY_RULES = (Never("f2"), Never("bad"))


def play_warden():
    """The warden of these doors and rules; a alone is an end, and its rooms are those of a, b and c."""
    return warden_of("a", "ad", PLAY_DOORS, PLAY_RULES)


def state_of(play):
    """All that a play tells."""
    return (play.room(), play.told(), play.letters(), play.at_end(), play.book())


def some_things_done(play, seed, many):
    """Do so many things with a play, letters, turns, free deeds and what is refused, made up of a number.

    The list of pairs of what was told (a refusal's class, where it was refused) and all that the play tells then.
    """
    dice = random.Random(seed)
    deeds = play.whole.house().deeds().names() + ["nothing"]
    done = []
    for turn in range(many):
        calls = [lambda: play.send(dice.choice(["ann", "bob", "cy", "no name"]), dice.choice(deeds)), play.turn,
                 lambda: play.came(dice.choice(deeds))]
        try:
            told = dice.choices(calls, [5, 3, 4])[0]()
        except WardError as error:
            told = type(error)
        done.append((told, state_of(play)))
    return done
