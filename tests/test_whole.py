"""The whole: [0.2] (a) to (f), [0.3], from a text to its house, its warden, its least machine and its plays."""

import functools
import itertools
import random
import unittest

from helper import RefusalCase, let_rows, some_things_done, state_of
from roomward.books import replayed
from roomward.deeds import Deeds
from roomward.desks import answers_of
from roomward.errors import NoWarden, TooMany
from roomward.houses import House
from roomward.least import classes, least
from roomward.machines import Machine
from roomward.parts import Part, differs
from roomward.plays import Play
from roomward.rounds import left
from roomward.rules import All, Most, Never, Turns, keeps
from roomward.sides import Sides, lapse
from roomward.texts import read, written
from roomward.warden import Warden, judge_of
from roomward.weaving import Woven


def some_text(seed):
    """A text made up of a number: deeds, one to three machines, none to four rules."""
    dice = random.Random(seed)
    free = dice.sample(["f0", "f1", "f2"], dice.randint(0, 2))
    names = free + dice.sample(["bad", "go", "in", "up"], dice.randint(2, 4))
    rows = [("free " if name in free else "deed ") + name for name in dice.sample(names, len(names))]
    for many in range(dice.choice([1, 2, 2, 3])):
        rooms = list("abcdef")[:dice.randint(2, 6)]
        known = [name for name in names if dice.random() < 0.6]
        inner = ["end " + room for room in rooms if dice.random() < 0.7]
        inner += [f"door {room} {deed} {dice.choice(rooms)}" for room in rooms for deed in known if dice.random() < 0.8]
        inner += ["knows " + deed for deed in known if dice.random() < 0.4]
        rows += ["machine " + dice.choice(rooms)] + dice.sample(inner, len(inner))
    for many in range(dice.choice([0, 1, 1, 2, 2, 3, 4])):
        one, other = dice.sample(names, 2)
        rows.append("rule " + dice.choice([f"never {one}", f"most {one} {dice.randint(0, 4)}", f"ahead {one} {other}",
                                           f"turns {one} {other}", f"hold {one} {other}", f"answer {one} {other}"]))
    return "\n".join(rows) + "\n"


class Reckoned:
    """A house reckoned straight from its text's words, and from nothing of the program."""

    def __init__(self, text):
        rows = [row.split() for row in text.split("\n")]
        self.free = sorted(row[1] for row in rows if row[:1] == ["free"])
        self.names = sorted(row[1] for row in rows if row[:1] in (["free"], ["deed"]))
        self.machines, self.rules = [], []
        for row in rows:
            if row[:1] == ["machine"]:
                self.machines.append({"begin": row[1], "ends": set(), "doors": {}, "knows": set()})
            elif row[:1] == ["end"]:
                self.machines[-1]["ends"].add(row[1])
            elif row[:1] == ["door"]:
                self.machines[-1]["doors"][row[1], row[2]] = row[3]
                self.machines[-1]["knows"].add(row[2])
            elif row[:1] == ["knows"]:
                self.machines[-1]["knows"].add(row[1])
            elif row[:1] == ["rule"]:
                self.rules.append(row[1:])
        self.knows = sorted(set().union(*(machine["knows"] for machine in self.machines)))
        self.begin = tuple(machine["begin"] for machine in self.machines), tuple(0 for rule in self.rules)

    def kept(self, rule, state, deed):
        """A rule's number behind a deed, None where it is broken: how often, or whether something was done."""
        word, one = rule[:2]
        if word == "never":
            return None if deed == one else state
        if word == "most":
            return None if deed == one and state == int(rule[2]) else state + (deed == one)
        other = rule[2]
        if deed not in (one, other):
            return state
        if word == "ahead":
            return None if deed == other and state == 0 else 1
        if word == "turns":
            return None if deed != rule[1 + state] else 1 - state
        if word == "hold" and deed == one and state == 1:
            return None
        return 1 if deed == one else 0

    def done(self, room, deed):
        """The machines' rooms behind a deed, None where they can't do it."""
        if deed not in self.knows:
            return None
        fars = tuple(m["doors"].get((near, deed)) if deed in m["knows"] else near
                     for m, near in zip(self.machines, room[0]))
        return None if None in fars else fars

    def to(self, room, deed):
        """The room to which a deed leads on, None where it can't be done or breaks a rule."""
        fars, states = self.done(room, deed), [self.kept(r, s, deed) for r, s in zip(self.rules, room[1])]
        return None if fars is None or None in states else (fars, tuple(states))

    def is_end(self, room):
        waiting = [rule[0] == "answer" and state == 1 for rule, state in zip(self.rules, room[1])]
        return not any(waiting) and all(near in m["ends"] for m, near in zip(self.machines, room[0]))

    def come_to(self, begin, go):
        """The rooms in the order of coming, by a function of a room and a deed."""
        rooms = [begin]
        for room in rooms:
            for deed in self.names:
                far = go(room, deed)
                rooms.extend([far] if far is not None and far not in rooms else [])
        return rooms

    @functools.cache
    def good(self):
        """The greatest set of rooms from which nothing free leads out or breaks a rule and an end can be come to.

        One room is given up at a time, the last ones first: in whichever order, the same ones stay.
        """
        rooms = self.come_to(self.begin, self.to)
        staying = set(rooms)
        while True:
            opened = {room for room in staying if self.is_end(room)}
            for turn in rooms:
                opened |= {room for room in staying if any(self.to(room, deed) in opened for deed in self.names)}
            wrong = [room for room in rooms if room in staying and (room not in opened or any(
                self.done(room, deed) is not None and self.to(room, deed) not in staying for deed in self.free))]
            if not wrong:
                return tuple(room for room in rooms if room in staying)
            staying.discard(wrong[-1])

    def told(self, room):
        """The room as the program tells it."""
        return room[0] + tuple("r" + str(state) for state in room[1])


MANY_TEXTS = 300


@functools.cache
def some_houses():
    """Made-up texts, their reckoning and their house, without those of over sixty rooms."""
    found = []
    for seed in range(MANY_TEXTS):
        text = some_text(seed)
        house = House(*read(text))
        try:
            house.rooms()
        except TooMany:
            continue
        found.append((text, Reckoned(text), house))
    return tuple(found)


@functools.cache
def some_wardens():
    """Made-up texts, their reckoning and their warden, where there is one."""
    found = []
    for text, reckoned, house in some_houses():
        try:
            found.append((text, reckoned, Warden(house)))
        except NoWarden:
            continue
    return tuple(found)


class FromTextToWarden(RefusalCase):
    def test_the_rooms_that_are_left(self):
        kinds = set()
        for text, reckoned, house in some_houses():
            self.assertEqual(house.rooms(), [reckoned.told(room) for room in
                                             reckoned.come_to(reckoned.begin, reckoned.to)])
            self.assertEqual(left(house), [reckoned.told(room) for room in reckoned.good()])
            kinds.add((len(house.rooms()) > 6, len(left(house)) == 0, len(left(house)) == len(house.rooms())))
        self.assertEqual(len(kinds), 6)

    def test_over_sixty_rooms(self):
        many = 0
        for seed in range(MANY_TEXTS):
            text = some_text(seed)
            reckoned = Reckoned(text)
            if len(reckoned.come_to(reckoned.begin, reckoned.to)) > 60:
                self.refused(TooMany, Warden, House(*read(text)))
                self.assertEqual(answers_of(text, "rooms\nwhere"), ["refused TooMany"] * 2)
                many += 1
        self.assertGreater(many, 3)

    def test_what_is_let_and_forbidden_at_each(self):
        forbidden = 0
        for text, reckoned, warden in some_wardens():
            good = reckoned.good()
            rooms = reckoned.come_to(reckoned.begin, lambda room, deed: far_within(reckoned, good, room, deed))
            self.assertEqual(warden.rooms(), [reckoned.told(room) for room in rooms])
            for room in rooms:
                here = reckoned.told(room)
                can = [deed for deed in reckoned.names if reckoned.done(room, deed) is not None]
                let = [deed for deed in can if reckoned.to(room, deed) in good]
                self.assertEqual(warden.lets(here), let)
                self.assertEqual(warden.forbids(here), [deed for deed in can if deed not in let])
                self.assertEqual([deed for deed in warden.forbids(here) if deed in reckoned.free], [])
                for deed in let:
                    self.assertEqual(warden.to(here, deed), reckoned.told(reckoned.to(room, deed)))
                forbidden += len(can) - len(let)
        self.assertGreater(forbidden, 100)

    def test_no_warden_just_where_the_begin_goes(self):
        none = 0
        for text, reckoned, house in some_houses():
            if reckoned.begin in reckoned.good():
                self.assertEqual(Warden(house).begin(), reckoned.told(reckoned.begin))
                continue
            error = self.refused(NoWarden, Warden, house)
            self.row_shows(reckoned, reckoned.begin, error.word, error.row, 0)
            self.assertEqual(answers_of(text, "turn"), [" ".join(["no warden:", error.word] + error.row)])
            none += 1
        self.assertGreater(none, 20)

    def row_shows(self, reckoned, room, word, row, asked):
        """Ask that a row can be done from a room, free behind the first so many deeds, and ends as its word tells."""
        self.assertTrue(all(deed in reckoned.free for deed in row[asked:]))
        for place, deed in enumerate(row):
            self.assertIsNotNone(reckoned.done(room, deed))
            broken = reckoned.to(room, deed) is None
            self.assertIs(broken, word == "broken" and place == len(row) - 1)
            room = room if broken else reckoned.to(room, deed)
        self.assertIn(word, ("broken", "shut"))
        if word == "shut":
            self.assertNotIn(room, reckoned.good())
            # Nothing free takes it off by itself: an end is what can't be come to.
            self.assertFalse(any(reckoned.done(room, deed) is not None and reckoned.to(room, deed) is None
                                 for deed in reckoned.free))

    def test_why(self):
        for text, reckoned, warden in some_wardens():
            named = {reckoned.told(room): room for room in reckoned.good()}
            for room in warden.rooms():
                for deed in warden.forbids(room):
                    word, row = warden.why(room, deed)
                    self.assertEqual(row[0], deed)
                    self.row_shows(reckoned, named[room], word, row, 1)


def far_within(reckoned, rooms, room, deed):
    """The room to which a deed leads on, None where it isn't one of some rooms."""
    far = reckoned.to(room, deed)
    return far if far in rooms else None


class LeastMachines(RefusalCase):
    def test_woven_with_the_machines_it_lets_just_the_warden_s_rows(self):
        smaller = 0
        for text, reckoned, warden in some_wardens():
            good = reckoned.good()
            woven = Woven([least(warden)] + read(text)[1])
            pairs = [(woven.begin(), reckoned.begin)]
            for near, room in pairs:
                let = [deed for deed in reckoned.names if far_within(reckoned, good, room, deed) is not None]
                self.assertEqual(woven.at(near), let)
                self.assertIs(least(warden).is_end(near[0]), reckoned.is_end(room))
                for deed in let:
                    far = (woven.to(near, deed), reckoned.to(room, deed))
                    pairs.extend([] if far in pairs else [far])
            smaller += len(least(warden).rooms()) < len(warden.rooms())
        self.assertGreater(smaller, 10)

    def test_as_many_rooms_as_unlike_rooms_of_the_warden(self):
        for text, reckoned, warden in some_wardens():
            good = reckoned.good()
            rooms = reckoned.come_to(reckoned.begin, lambda room, deed: far_within(reckoned, good, room, deed))
            kinds = {room: reckoned.is_end(room) for room in rooms}
            for turn in rooms:
                marks = {room: (kinds[room], tuple(kinds.get(far_within(reckoned, good, room, deed))
                                                   for deed in reckoned.names)) for room in rooms}
                order = list(dict.fromkeys(marks.values()))
                kinds = {room: order.index(marks[room]) + 1 for room in rooms}
            many = len(set(kinds.values()))
            self.assertEqual((len(least(warden).rooms()), len(classes(warden))), (many, many))
            self.assertEqual(answers_of(text, "least"), [str(many)])

    def test_the_least_machine_written_as_a_text_has_the_same_rows(self):
        for text, reckoned, warden in some_wardens()[:30]:
            machine = least(warden)
            again = Warden(House(*read(written(machine.deeds(), [machine], []))))
            judge, other = judge_of(warden), judge_of(again)
            for row in itertools.islice(let_rows(warden, 5), 150):
                self.assertEqual(judge(row), other(row))


class Plays(RefusalCase):
    def test_what_a_play_did_is_let_keeps_the_rules_and_is_gone_along(self):
        longest = 0
        for seed, (text, reckoned, warden) in enumerate(some_wardens()):
            deeds, plant, rules = read(text)
            play = Play(warden)
            for told, state in some_things_done(play, seed, 90):
                room = warden.behind(state[1])
                self.assertEqual((room, warden.house().is_end(room)), (state[0], state[3]))
            row = play.told()
            self.assertTrue(all(keeps(rule, deeds, row) for rule in rules))
            parts = tuple(machine.behind(row) for machine in plant)
            self.assertEqual(parts, play.room()[:len(plant)])
            room = reckoned.begin
            for deed in row:
                room = reckoned.to(room, deed)
                self.assertIn(room, reckoned.good())
            self.assertEqual((reckoned.told(room), reckoned.is_end(room)), (play.room(), play.at_end()))
            longest = max(longest, len(row))
        self.assertGreater(longest, 20)

    def test_a_book_cut_anywhere_is_the_play_as_it_was(self):
        for seed, (text, reckoned, warden) in enumerate(some_wardens()[:40]):
            for told, state in some_things_done(Play(warden), seed, 40):
                again = replayed(Warden(House(*read(text))), state[4])
                self.assertEqual(state_of(again), state)

    def test_a_desk_s_play(self):
        for seed, (text, reckoned, warden) in enumerate(some_wardens()[:40]):
            dice, play, rows, answers = random.Random(seed), Play(warden), [], []
            for step in range(40):
                deed = dice.choice(reckoned.names)
                room = warden.behind(play.told())
                if dice.random() < 0.4 and deed not in reckoned.free:
                    rows.append("send ann " + deed)
                    answers.append("ok" if len(play.letters()) < 20 else "refused TooMany")
                    play.send("ann", deed) if answers[-1] == "ok" else None
                elif deed in reckoned.free:
                    rows.append("came " + deed)
                    answers.append("ok" if deed in warden.lets(room) else "refused NotNow")
                    play.came(deed) if answers[-1] == "ok" else None
                else:
                    rows.append("turn")
                    answers.append(" ".join(play.turn() or ["nothing"]))
                rows.append("where")
                answers.append(" ".join(play.told() or ["-"]) + (" end" if play.at_end() else " on"))
            self.assertEqual(answers_of(text, "\n".join(rows)), answers)


class Desks(RefusalCase):
    def test_rows_that_are_let_and_that_are_not(self):
        seen = set()
        for text, reckoned, warden in some_wardens()[:40]:
            good, rows, answers = reckoned.good(), [], []
            for row in itertools.chain.from_iterable(itertools.product(reckoned.names, repeat=n) for n in range(4)):
                room = reckoned.begin
                for deed in row:
                    room = None if room is None else far_within(reckoned, good, room, deed)
                can = [] if room is None else [deed for deed in reckoned.names if reckoned.done(room, deed) is not None]
                let = [deed for deed in can if reckoned.to(room, deed) in good]
                stopped = [deed for deed in can if deed not in let]
                for word, told in (("lets", let), ("forbids", stopped)):
                    rows.append(" ".join([word] + list(row)))
                    answers.append("not let" if room is None else " ".join(told or ["-"]))
                    seen.add(answers[-1] if answers[-1] in ("-", "not let") else word)
            self.assertEqual(answers_of(text, "\n".join(rows)), answers)
            many = len(reckoned.come_to(reckoned.begin, reckoned.to))
            self.assertEqual(answers_of(text, "rooms"), [f"{many} {len(good)}"])
        self.assertEqual(seen, {"-", "not let", "lets", "forbids"})

    def alike(self, warden, shown):
        """What a desk is to tell of a warden that sees some deeds alone; ask whether its two rows show it."""
        try:
            found = differs(Part(warden, shown))
        except TooMany:
            return "refused TooMany"
        if found is None:
            return "as good"
        row, other, deed = found
        self.assertEqual([d for d in row if d in shown], [d for d in other if d in shown])
        self.assertIn(deed, warden.lets(warden.behind(row)))
        self.assertIn(deed, warden.forbids(warden.behind(other)))
        return "alike: " + " ".join(row or ["-"]) + " / " + " ".join(other or ["-"]) + " : " + deed

    def test_in_part(self):
        seen = set()
        for number, (text, reckoned, warden) in enumerate(some_wardens()[:60]):
            for many in range(len(reckoned.names) + 1):
                shown = random.Random(number * 20 + many).sample(reckoned.names, many)
                told = self.alike(warden, shown)
                self.assertEqual(answers_of(text, "part " + " ".join(shown)), [told])
                seen.add(told[:5])
        self.assertTrue({"as go", "alike"} <= seen)


class SideBySide(RefusalCase):
    def test_they_let_the_whole_one_s_rows_and_just_these_where_nothing_lapses(self):
        found = set()
        for number, (text, reckoned, warden) in enumerate(some_wardens()[:60]):
            dice = random.Random(number)
            held = [name for name in reckoned.names if name not in reckoned.free]
            sights = [(dice.sample(reckoned.names, dice.randint(0, len(reckoned.names))), [deed for deed in held if
                       dice.random() < 0.6]) for k in range(dice.randint(1, 3))]
            sights[0][1].extend(held)
            sides = Sides(warden, sights)
            try:
                told = lapse(sides)
            except TooMany:
                continue
            found.add(told is None)
            for row in itertools.islice(let_rows(warden, 6), 120):
                let = warden.lets(warden.behind(row))
                self.assertEqual([deed for deed in let if deed not in sides.lets(row)], [])
                if told is None or len(row) < len(told[0]):
                    self.assertEqual(sides.lets(row), let)
            if told is not None:
                self.shows(warden, sides, *told)
        self.assertEqual(found, {True, False})

    def shows(self, warden, sides, row, deed, others):
        """Ask that behind a row a deed slips by, and behind a row that looks alike to each holder it is let."""
        self.assertIn(deed, warden.forbids(warden.behind(row)))
        self.assertIn(deed, sides.lets(row))
        for k, other in zip(sides.holders(deed), others, strict=True):
            sight = sides.part(k).seen()
            self.assertEqual([d for d in other if d in sight], [d for d in row if d in sight])
            self.assertIn(deed, warden.lets(warden.behind(other)))


class WhoseLists(RefusalCase):
    def told(self, warden, sides, play):
        """Ask the whole for all lists that it tells, some of them within others; empty each one."""
        house, part = warden.house(), Part(warden, ["go"])
        deeds, room = house.deeds(), warden.begin()
        asked = [deeds.names(), deeds.free(), deeds.names_of(3), house.knows(), house.rooms(), house.can(room),
                 left(house), warden.rooms(), warden.lets(room), warden.forbids(room), warden.why(room, "bad")[1],
                 judge_of(warden)([]), part.seen(), part.lets(part.begin()), part.forbids(part.begin()), part.places(),
                 list(differs(part) or []), sides.holders("go"), sides.forbids(0, sides.part(0).begin()),
                 sides.lets([]), list(lapse(sides) or []), least(warden).rooms(), least(warden).ends(),
                 least(warden).knows(), least(warden).at("r0"), play.told(), play.letters(), play.book(),
                 classes(warden)] + classes(warden)
        kept = [list(thing) for thing in asked]
        for thing in asked:
            thing.clear()
        return kept

    def test_lists_handed_in_and_lists_told(self):
        names, free, ends, more = ["go", "bad", "f0", "up"], ["f0"], ["a", "b"], ["up"]
        doors = [("a", "go", "b"), ("b", "f0", "a"), ("a", "bad", "a"), ("b", "go", "b")]
        deeds = Deeds(names, free)
        plant = [Machine(deeds, "a", ends, doors, more)]
        inner = [Never("bad"), Most("up", 2)]
        rules = [All(inner), Turns("go", "f0")]
        warden = Warden(House(deeds, plant, rules))
        seen, held = ["go"], ["go", "bad", "up"]
        sights = [(seen, held)]
        sides = Sides(warden, sights)
        book = [("send", "ann", "go"), ("send", "bob", "bad"), ("turn", "ann", "go", "let")]
        play = replayed(warden, book)
        first = self.told(warden, sides, play)
        for handed in (names, free, ends, more, doors, plant, inner, rules, seen, held, sights, book):
            handed.clear()
            self.assertEqual(self.told(warden, sides, play), first)
        self.assertEqual(play.turn(), ("bob", "bad", "idle"))

    def test_what_is_read_and_what_it_is_made_of(self):
        text = some_text(4)
        deeds, plant, rules = read(text)
        house = House(deeds, plant, rules)
        rooms = house.rooms()
        plant.clear()
        rules.clear()
        self.assertEqual(house.rooms(), rooms)
        self.assertEqual(written(*read(text)), written(*read(written(*read(text)))))


if __name__ == "__main__":
    unittest.main()
