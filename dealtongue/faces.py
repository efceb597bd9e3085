"""What is seen of the places of a text when two texts are laid side by side."""

from dealtongue.deals import ENDED


class Sight:
    """What is seen from a place on a day: its face behind the evening, and the places to which it leads."""

    def __init__(self, key, face, next_place, by_letter):
        self.key = key
        self.face = face
        self.next_place = next_place
        self.by_letter = by_letter

    def behind(self, letter):
        """Tells the place behind a letter (sender, word): the same one where it is idle."""
        _, _, place = self.key
        return self.by_letter.get(letter, place)


class Side:
    """One of the two texts: `name` tells its places from those of the other one."""

    def __init__(self, name, machine):
        self.name = name
        self.machine = machine
        self.sights = {}

    def letters(self):
        """Lists (sender, word) of all that can be sent."""
        return [(sender, name) for name, sender, _, _ in self.machine.words]

    def sight(self, place, real_day):
        """Tells what is seen from a place on a day."""
        day = self.machine.day_like(real_day)
        key = (self.name, day, place)
        if key not in self.sights:
            self.sights[key] = self.looked(key)
        return self.sights[key]

    def looked(self, key):
        """Looks from a place on a day."""
        machine = self.machine
        _, day, place = key
        behind, broken = machine.evening(place, day)
        coming = machine.day_like(day + 1)
        view = machine.view_of(place)
        by_letter = {}
        for at in machine.words_at(day, view):
            name, sender, _, _ = machine.words[at]
            by_letter[sender, name] = machine.send(place, day, view, at)
        face = face_of(machine, behind, broken, day)
        return Sight(key, face, machine.dawn(behind, coming), by_letter)


class Groups:
    """Puts keys in groups: each key leads to another one of its group, the last one to itself."""

    def __init__(self):
        self.leads = {}

    def last_of(self, key):
        """Tells the key by which the group of a key is known."""
        self.leads.setdefault(key, key)
        last = key
        while self.leads[last] != last:
            # The way is made shorter for those that come behind.
            self.leads[last] = self.leads[self.leads[last]]
            last = self.leads[last]
        return last

    def unite(self, one, other):
        """Joins the groups of two keys; tells whether they were two."""
        first, second = self.last_of(one), self.last_of(other)
        self.leads[first] = second
        return first != second


def face_of(machine, behind, broken, day):
    """Tells what is told of the place behind an evening: what is owed, what may be sent, whether it ended, what broke.

    What is late is owed with 0 days left, and so stands ahead, as by its day due. What broke is all that did by then
    where the machine counts it, else what did in this evening.
    """
    known, counts, pending = behind
    owed = []
    for number in pending:
        duty = machine.duties[number % machine.many]
        owed.append((duty.who, duty.whom, duty.words, number // machine.many))
    sendable = [machine.words[at][:2] for at in machine.words_at(day, machine.view_of(behind))]
    broke = counts if counts else machine.by_pairs(broken)
    told = [(pair, many) for pair, many in zip(machine.pairs, broke) if many > 0]
    return (sorted(owed), sorted(sendable), known & machine.bits[ENDED] > 0, told)
