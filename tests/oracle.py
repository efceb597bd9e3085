"""A second reckoner, as simple as can be: each phase looks at a copy of all that was ahead of it.

It shares nothing with the package, so that a fault would have to be made twice.
"""

import copy


def working(day, rest):
    return day % 7 not in rest[0] and day not in rest[1]


def due_day(day, span, rest):
    word, many = span
    while many:
        day += 1
        if word == "days" or working(day, rest):
            many -= 1
    return day


class Oracle:
    """Runs day by day; keeps what is told behind each."""

    def __init__(self, agreement, letters):
        self.parties, self.rest, self.words, self.clauses = agreement
        self.letters = sorted(letters)
        self.places = {clause[1]: place for place, clause in enumerate(self.clauses)}
        self.duties = [clause for clause in self.clauses if clause[0] == "duty"]
        self.by_name = {clause[1]: clause for clause in self.clauses}
        # A thing: [brought, due, how, on, left, late day]; a fee: [grown, paid].
        self.now = {"day": 0, "ended": None, "had": set(), "things": {}, "fees": {}, "purses": {}}
        # The letters that counted, and what each thing was to pay.
        self.heard = []
        self.amounts = {}

    def days(self, last):
        """Tells what is told behind each day, to the last one."""
        told = []
        for day in range(last + 1):
            self.now["day"] = day
            self.phase([("morning", day)], None)
            for letter in self.letters:
                if letter[0] == day and self.counts(letter):
                    self.phase([("letter", letter[3])], letter)
            self.phase([], "evening")
            told.append(self.told())
        return told

    def true(self, condition, state):
        if condition is None:
            return True
        word, *parts = condition
        if word in ("not", "all", "any"):
            truths = [self.true(part, state) for part in parts]
            return {"not": not truths[0], "all": all(truths), "any": any(truths)}[word]
        mine = [thing for (duty, _), thing in state["things"].items() if parts and duty == parts[0]]
        return {
            "had": lambda: parts[0] in state["had"],
            "owes": lambda: any(thing[2] in ("open", "late") for thing in mine),
            "broken": lambda: any(thing[5] is not None for thing in mine),
            "ended": lambda: state["ended"] is not None,
            "before": lambda: state["day"] < parts[0],
        }[word]()

    def counts(self, letter):
        _, _, sender, word, coins = letter
        for name, by, payee, condition in self.words:
            if name == word:
                fits = coins == 0 if payee is None else coins > 0
                return fits and by == sender and self.true(condition, self.now)
        return False

    def phase(self, happened, cause):
        ahead = copy.deepcopy(self.now)
        coins = 0
        done, broken = [], []
        if cause == "evening":
            done, broken = self.evening(ahead)
        elif cause is not None:
            _, _, sender, word, coins = cause
            payee = [row[2] for row in self.words if row[0] == word][0]
            self.now["had"].add(word)
            self.heard.append(cause)
            done = self.pay(sender, payee, coins) if payee else self.send(word)
        happened = happened + [("done", duty) for duty, _ in done] + [("broken", duty) for duty, _ in broken]
        goings = [(clause, self.times(clause, happened, ahead)) for clause in self.clauses if clause[0] != "fee"]
        for clause, times in goings:
            if clause[0] == "free" and times:
                self.free(lambda duty, name=clause[2]: duty == name)
        ends = ahead["ended"] is None and any(times for clause, times in goings if clause[0] == "end")
        if ends:
            self.now["ended"] = self.now["day"]
            self.free(lambda duty: not self.by_name[duty][8])
            goings = [(clause, self.times(clause, [("ended",)], ahead)) for clause, _ in goings]
        for clause, times in goings:
            if clause[0] == "duty" and ahead["ended"] is None:
                for _ in range(times):
                    self.bring(clause, coins)

    def times(self, clause, happened, ahead):
        trigger = clause[-3] if clause[0] == "duty" else clause[-2]
        condition = clause[-2] if clause[0] == "duty" else clause[-1]
        if not self.true(condition, ahead):
            return 0
        if happened[:1] and happened[0][0] == "morning":
            day = happened[0][1]
            if trigger[0] == "every":
                return int(day in range(trigger[1], 3001, trigger[2]))
            return int(trigger == ("day", day))
        return sum(trigger == one for one in happened)

    def waiting(self, duty=None):
        """The keys of the open and late things, of all duties or one."""
        keys = [key for key, thing in self.now["things"].items() if thing[2] in ("open", "late")]
        return [key for key in keys if duty in (None, key[0])]

    def close(self, key, how):
        thing = self.now["things"][key]
        thing[2:4] = [how, self.now["day"]]

    def free(self, wanted):
        for key in self.waiting():
            if wanted(key[0]):
                self.close(key, "freed")

    def bring(self, clause, coins):
        _, name, _, _, act, span, _, _, _ = clause
        left = 0
        if act[0] == "pay":
            left = act[1][1] if act[1][0] == "coins" else coins * act[1][1] // act[1][2]
            if left == 0:
                return
        if len(self.waiting(name)) < 2:
            number = 1 + sum(key[0] == name for key in self.now["things"])
            day = self.now["day"]
            self.amounts[name, number] = left
            self.now["things"][name, number] = [day, due_day(day, span, self.rest), "open", day, left, None]

    def send(self, word):
        keys = []
        for key in self.waiting():
            act = self.by_name[key[0]][4]
            if act[0] == "send" and word in act[1]:
                keys.append((self.now["things"][key][1], self.places[key[0]], key[1], key))
        for row in sorted(keys)[:1]:
            self.close(row[3], "done")
        return [row[3] for row in sorted(keys)[:1]]

    def debts(self, sender, payee):
        """Lists [due, place, number, key of a thing or fee, what is left]."""
        rows = []
        for key in self.waiting():
            clause = self.by_name[key[0]]
            if clause[2:4] == (sender, payee) and clause[4][0] == "pay":
                rows.append([self.now["things"][key][1], self.places[key[0]], key[1], key, self.now["things"][key][4]])
        for key, (grown, paid) in self.now["fees"].items():
            duty = self.by_name[self.by_name[key[0]][2]]
            if duty[2:4] == (sender, payee) and grown > paid:
                due = self.now["things"][duty[1], key[1]][1]
                rows.append([due, self.places[key[0]], key[1], key, grown - paid])
        return sorted(rows)

    def pay(self, sender, payee, coins):
        done = []
        for _, _, _, key, left in self.debts(sender, payee):
            part = min(left, coins)
            coins -= part
            if key in self.now["things"]:
                self.now["things"][key][4] -= part
                if part == left:
                    self.close(key, "done")
                    done.append(key)
            else:
                self.now["fees"][key][1] += part
        self.now["purses"][sender, payee] = self.now["purses"].get((sender, payee), 0) + coins
        return done

    def evening(self, ahead):
        done, broken = [], []
        for sender in self.parties:
            for payee in self.parties:
                coins = self.now["purses"].pop((sender, payee), 0)
                done += self.pay(sender, payee, coins)
        for key, thing in self.now["things"].items():
            if thing[2] == "open" and thing[1] == self.now["day"]:
                thing[2:] = ["late", thing[1], thing[4], thing[1]]
                broken.append(key)
        for fee in self.clauses:
            for key, thing in self.now["things"].items():
                if fee[0] == "fee" and key[0] == fee[2]:
                    if ahead["things"][key][2] == "late" and thing[2] == "late":
                        row = self.now["fees"].setdefault((fee[1], key[1]), [0, 0])
                        row[0] = min(row[0] + fee[3], fee[4])
        return done, broken

    def told(self):
        """Tells all that is told of a State."""
        def order(key):
            return (self.places[key[0]], key[1])
        things = [(key, self.now["things"][key]) for key in sorted(self.now["things"], key=order)]
        fees = [(key, self.now["fees"][key]) for key in sorted(self.now["fees"], key=order)]
        owed = []
        for key in self.waiting():
            _, _, who, whom, act, _, _, _, _ = self.by_name[key[0]]
            _, due, _, _, left, _ = self.now["things"][key]
            owed.append((who, whom, act[1] if act[0] == "send" else ("coins",), due, left))
        for key, (grown, paid) in fees:
            duty = self.by_name[self.by_name[key[0]][2]]
            if grown > paid:
                owed.append((duty[2], duty[3], ("coins",), self.now["things"][duty[1], key[1]][1], grown - paid))
        return {
            "day": self.now["day"],
            "ended": self.now["ended"],
            "things": [key + tuple(thing[:5]) for key, thing in things],
            "broken": [key + (thing[5],) for key, thing in things if thing[5] is not None],
            "fees": [key + tuple(row) for key, row in fees],
            "owed": sorted(owed),
            "may": sorted(row[0] for row in self.words if self.true(row[3], self.now)),
            "had": sorted(self.now["had"]),
            "put_by": {pair: coins for pair, coins in self.now["purses"].items() if coins},
        }


def told_days(agreement, letters, last):
    """Lists what the oracle tells behind each day, to the last one."""
    return Oracle(agreement, letters).days(last)


def told_of(state):
    """Tells what is told of a State in the form in which the oracle tells it."""
    return {
        "day": state.day, "ended": state.ended, "things": state.things(), "broken": state.broken(),
        "fees": state.fees(), "owed": state.owed(), "may": state.may(), "had": state.had(), "put_by": state.put_by(),
    }
