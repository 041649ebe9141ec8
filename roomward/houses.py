"""Houses: machines, and the rules beside them."""

from roomward.coming import come_to
from roomward.errors import TooMany
from roomward.machines import MOST_ROOMS
from roomward.weaving import Woven, all_at_ends, begin_of, far_of

MOST_PLANT = 3
MOST_RULES = 4


class House:
    """One to three machines, the plant, and none to four rules; a room is a tuple of all their rooms."""

    def __init__(self, deeds, plant, rules):
        if not plant or len(plant) > MOST_PLANT:
            raise TooMany("a house has one to three machines")
        if len(rules) > MOST_RULES:
            raise TooMany("a house has at most four rules")
        self.deeds_made_of = deeds
        self.plant = Woven(plant)
        self.many_machines = len(plant)
        self.rule_machines = [rule.machine(deeds) for rule in rules]

    def deeds(self):
        """The Deeds that it was made of."""
        return self.deeds_made_of

    def knows(self):
        """The rising list of the deeds that one of its machines knows, the rules' ones aside."""
        return self.plant.knows()

    def begin(self):
        """The room where all stand at first."""
        return self.plant.begin() + begin_of(self.rule_machines)

    def plant_part(self, room):
        """The rooms of the machines in a room."""
        return room[:self.many_machines]

    def rule_part(self, room):
        """The rooms of the rules in a room."""
        return room[self.many_machines:]

    def is_end(self, room):
        """Tell whether all machines and rules are at ends."""
        return self.plant.is_end(self.plant_part(room)) and all_at_ends(self.rule_machines, self.rule_part(room))

    def can(self, room):
        """The rising list of the deeds that the machines can do at a room."""
        return self.plant.at(self.plant_part(room))

    def by_plant(self, room, deed):
        """The machines' rooms behind a deed, None where they can't do it; refused where it is no deed."""
        return self.plant.to(self.plant_part(room), deed)

    def by_rules(self, room, deed):
        """The rules' rooms behind a deed, None where it breaks one."""
        return far_of(self.rule_machines, self.rule_part(room), deed)

    def breaks(self, room, deed):
        """Tell whether the machines can do a deed at a room and it breaks a rule."""
        return self.by_plant(room, deed) is not None and self.by_rules(room, deed) is None

    def to(self, room, deed):
        """The room to which a deed leads on, None where it can't be done or breaks a rule."""
        plant_far = self.by_plant(room, deed)
        rule_far = self.by_rules(room, deed)
        if plant_far is None or rule_far is None:
            return None
        return plant_far + rule_far

    def ways(self, room):
        """The list of pairs of a deed that leads on from a room and the room behind it, by rising deeds."""
        pairs = [(deed, self.to(room, deed)) for deed in self.can(room)]
        return [(deed, far) for deed, far in pairs if far is not None]

    def rooms(self):
        """The list of the rooms that are come to by deeds that lead on, in the order of coming."""
        return come_to(self.begin(), lambda room: self.ways(room), MOST_ROOMS)
