"""All conduct gone through as plainly as can be: by the second reckoner, each day by itself, up to a last one."""

import copy

from tests.oracle import Oracle


class Moment:
    """How all stands in the midst of a day, by the second reckoner; moments are never changed."""

    def __init__(self, agreement, oracle):
        self.agreement = agreement
        self.oracle = oracle

    def moved(self, happened, cause):
        other = copy.copy(self.oracle)
        other.now = copy.deepcopy(self.oracle.now)
        other.heard = list(self.oracle.heard)
        other.amounts = dict(self.oracle.amounts)
        if happened and happened[0][0] == "morning":
            other.now["day"] = happened[0][1]
        other.phase(happened, cause)
        return Moment(self.agreement, other)

    def morning(self, day):
        return self.moved([("morning", day)], None)

    def evening(self):
        return self.moved([], "evening")

    def letters(self):
        """The letters that would count now, by their words."""
        day = self.oracle.now["day"]
        found = {word[0]: (day, 1, word[1], word[0], 0) for word in self.agreement[2]}
        return {name: letter for name, letter in found.items() if self.oracle.counts(letter)}

    def behind(self, letter):
        """The moment behind a letter, the same one where it is idle."""
        return self.moved([("letter", letter[3])], letter) if self.oracle.counts(letter) else self

    def holds(self, condition):
        return self.oracle.true(condition, self.oracle.now)

    def broken(self):
        """The things that are broken, as a set of (duty, number)."""
        return {key for key, thing in self.oracle.now["things"].items() if thing[5] is not None}

    def key(self):
        """All that may matter for what comes, and how often the duties of each two were broken."""
        now = self.oracle.now
        waiting = tuple(sorted((key[0], thing[1], thing[2]) for key, thing in now["things"].items()
                               if thing[2] in ("open", "late")))
        broken = {}
        for duty, _ in self.broken():
            broken[duty] = min(3, broken.get(duty, 0) + 1)
        return (now["day"], waiting, tuple(sorted(now["had"])), tuple(sorted(broken.items())), now["ended"] is None)

    def face(self):
        """What is told of it in [25]."""
        told = self.oracle.told()
        day = told["day"]
        owed = [row[:3] + (None if row[3] <= day else row[3],) + row[4:] for row in told["owed"]]
        senders = {word[0]: word[1] for word in self.agreement[2]}
        broken = {}
        for duty, _ in self.broken():
            pair = self.oracle.by_name[duty][2:4]
            broken[pair] = min(3, broken.get(pair, 0) + 1)
        return (owed, [(word, senders[word]) for word in told["may"]], told["ended"] is None, broken)


def start(agreement):
    """The moment behind the morning of day 0."""
    return Moment(agreement, Oracle(agreement, [])).morning(0)


def first_day(agreement, condition, last):
    """The (day, number of letters) behind which a condition first holds, None where not by the last day."""
    return first_found([start(agreement)], lambda ends: ends[0].holds(condition), last)


def first_apart(one, other, last):
    """The (day, number of letters) behind which two agreements are first told apart, None where not by the last day."""
    return first_found([start(one), start(other)], lambda ends: ends[0].face() != ends[1].face(), last)


def first_found(moments, wanted, last):
    """The (day, number of letters) of the first moments behind an evening that are wanted."""
    now = {tuple(moment.key() for moment in moments): moments}
    many = {key: 0 for key in now}
    for day in range(last + 1):
        queue = sorted(now, key=lambda key: many[key])
        for key in queue:
            for letter in sorted({letter for moment in now[key] for letter in moment.letters().values()}):
                further = [moment.behind(letter) for moment in now[key]]
                name = tuple(moment.key() for moment in further)
                if name not in now:
                    # What more letters lead to stands behind in the queue.
                    now[name] = further
                    many[name] = many[key] + 1
                    queue.append(name)
                elif many[name] > many[key] + 1:
                    many[name] = many[key] + 1
                    queue.append(name)
        ahead = (now, many)
        now, many = {}, {}
        for key in sorted(ahead[0], key=lambda name: ahead[1][name]):
            ends = [moment.evening() for moment in ahead[0][key]]
            if wanted(ends):
                return (day, ahead[1][key])
            further = [end.morning(day + 1) for end in ends]
            name = tuple(moment.key() for moment in further)
            if name not in now:
                now[name] = further
                many[name] = ahead[1][key]
    return None


class Play:
    """The game of [24] played out in all ways, up to a last day."""

    def __init__(self, agreement, party, last):
        self.agreement = agreement
        self.party = party
        self.last = last
        self.known = {}

    def day_lost(self, moment, turn=0):
        """The day by which the others break a duty of the party, None where they can't by the last day."""
        key = (moment.key(), turn)
        if key not in self.known:
            self.known[key] = self.looked(moment, turn)
        return self.known[key]

    def options(self, moment, turn):
        """The moments to which the party at a turn can lead, by the word sent, or None."""
        mover = self.agreement[0][turn]
        found = {None: moment}
        for word, letter in moment.letters().items():
            if letter[2] == mover:
                found[word] = moment.behind(letter)
        return found

    def looked(self, moment, turn):
        if turn < len(self.agreement[0]):
            days = [self.day_lost(further, turn + 1) for further in self.options(moment, turn).values()]
            lost = [day for day in days if day is not None]
            if self.agreement[0][turn] == self.party:
                return max(lost) if len(lost) == len(days) else None
            return min(lost) if lost else None
        day = moment.oracle.now["day"]
        end = moment.evening()
        if any(moment.oracle.by_name[duty][2] == self.party for duty, _ in end.broken() - moment.broken()):
            return day
        return None if day == self.last else self.day_lost(end.morning(day + 1))
