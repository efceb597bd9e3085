"""A second reckoner, as simple as can be: each phase looks at a copy of all that was ahead of it.

It shares nothing with the package, so that a fault would have to be made twice.
"""

import copy


def working(day, rest):
    return day % 7 not in rest[0] and day not in rest[1]


def due_day(day, span, rest):
    word, many = span
    while many:
        day += 1
        if word == "days" or working(day, rest):
            many -= 1
    return day


class Oracle:
    """Runs day by day; keeps what is told behind each. `later` are texts that come into force, by their days."""

    def __init__(self, agreement, letters, later=()):
        self.letters = sorted(letters)
        self.later = dict(later)
        # A thing: [brought, due, how, on, left, late day]; a fee, by (fee, duty, number): [grown, paid, pair, due].
        self.now = {"day": 0, "ended": None, "had": set(), "things": {}, "fees": {}, "purses": {}}
        # The letters that counted, why others didn't, what each thing was to pay, and where coins went.
        self.heard = []
        self.idle = {}
        self.amounts = {}
        self.rows = []
        # Of each happening (day, clause, cause).
        self.why = {}
        self.take(agreement)

    def take(self, agreement):
        self.parties, self.rest, self.words, self.clauses = agreement
        self.places = {clause[1]: place for place, clause in enumerate(self.clauses)}
        self.duties = [clause for clause in self.clauses if clause[0] == "duty"]
        self.by_name = {clause[1]: clause for clause in self.clauses}

    def amend(self, agreement, day):
        """Lets another text come into force, and frees what has no place in it."""
        elder = {clause[1]: clause for clause in self.duties}
        self.take(agreement)
        self.now["day"] = day
        mine = {clause[1]: clause for clause in self.duties}
        for key in self.waiting():
            one, other = elder[key[0]], mine.get(key[0])
            if other is None or one[2:4] != other[2:4] or one[4][0] != other[4][0]:
                self.close(key, "freed", None, ("day", day))

    def days(self, last):
        """Tells what is told behind each day, to the last one."""
        told = []
        for day in range(last + 1):
            if day in self.later:
                self.amend(self.later[day], day)
            self.now["day"] = day
            self.phase([("morning", day)], None)
            for letter in self.letters:
                if letter[0] == day:
                    self.idle[letter[:2]] = self.why_idle(letter)
                    if self.counts(letter):
                        self.phase([("letter", letter[3])], letter)
            self.phase([], "evening")
            told.append(self.told())
        return told

    def true(self, condition, state):
        if condition is None:
            return True
        word, *parts = condition
        if word in ("not", "all", "any"):
            truths = [self.true(part, state) for part in parts]
            return {"not": not truths[0], "all": all(truths), "any": any(truths)}[word]
        mine = [thing for (duty, _), thing in state["things"].items() if parts and duty == parts[0]]
        return {
            "had": lambda: parts[0] in state["had"],
            "owes": lambda: any(thing[2] in ("open", "late") for thing in mine),
            "broken": lambda: any(thing[5] is not None for thing in mine),
            "ended": lambda: state["ended"] is not None,
            "before": lambda: state["day"] < parts[0],
        }[word]()

    def weighed(self, condition):
        """Tells what [17] tells of a condition, as all stands now."""
        word, *parts = condition
        told = []
        if word in ("not", "all", "any"):
            told = [self.weighed(part) for part in parts]
        elif word == "had":
            told = [letter[:2] for letter in self.heard if letter[3] == parts[0]]
        elif word in ("owes", "broken"):
            for (duty, number), thing in sorted(self.now["things"].items()):
                so = thing[2] in ("open", "late") if word == "owes" else thing[5] is not None
                if duty == parts[0] and so:
                    told.append(number)
        return (word, self.true(condition, self.now), told)

    def why_idle(self, letter):
        """Tells what [17] tells of a letter that is said now."""
        _, _, sender, word, coins = letter
        rows = [row for row in self.words if row[0] == word]
        if not rows:
            return ("word",)
        _, by, payee, condition = rows[0]
        if by != sender:
            return ("sender",)
        if (coins == 0) != (payee is None):
            return ("coins",)
        return None if self.true(condition, self.now) else ("while", self.weighed(condition))

    def counts(self, letter):
        return self.why_idle(letter) is None

    def phase(self, happened, cause):
        """`happened` are triggers; goes through all of one phase."""
        ahead = copy.deepcopy(self.now)
        coins = 0
        done, broken = [], []
        happened = [(trigger, ("day", self.now["day"])) for trigger in happened]
        if cause == "evening":
            done, broken = self.evening(ahead)
        elif cause is not None:
            said, turn, sender, word, coins = cause
            payee = [row[2] for row in self.words if row[0] == word][0]
            counted = ("counts", said, turn)
            self.why[counted] = (said, None, None)
            happened = [(("letter", word), counted)]
            self.now["had"].add(word)
            self.heard.append(cause)
            if payee:
                done = self.pay(sender, payee, coins, ("letter", said, turn), counted)
            else:
                done = self.send(word, counted)
        for how, keys in (("done", done), ("broken", broken)):
            keys = sorted(keys, key=lambda key: (self.places[key[0]], key[1]))
            happened = happened + [((how, duty), (how, duty, number)) for duty, number in keys]
        goings = [(clause, self.going(clause, happened, ahead)) for clause in self.clauses if clause[0] != "fee"]
        for clause, causes in goings:
            if clause[0] == "free" and causes:
                self.free(lambda duty, name=clause[2]: duty == name, clause[1], causes[0])
        ends = [(clause, causes) for clause, causes in goings if clause[0] == "end" and causes]
        if ahead["ended"] is None and ends:
            self.now["ended"] = self.now["day"]
            self.why[("ended",)] = (self.now["day"], ends[0][0][1], ends[0][1][0])
            self.free(lambda duty: not self.by_name[duty][8], None, ("ended",))
            goings = [(clause, self.going(clause, [(("ended",), ("ended",))], ahead)) for clause, _ in goings]
        for clause, causes in goings:
            if clause[0] == "duty" and ahead["ended"] is None:
                for each in causes:
                    self.bring(clause, coins, each)

    def going(self, clause, happened, ahead):
        """The happenings by which a clause goes."""
        trigger = clause[-3] if clause[0] == "duty" else clause[-2]
        condition = clause[-2] if clause[0] == "duty" else clause[-1]
        if not self.true(condition, ahead):
            return []
        if happened[:1] and happened[0][0][0] == "morning":
            day = happened[0][0][1]
            if trigger[0] == "every":
                return [("day", day)] if day in range(trigger[1], 3001, trigger[2]) else []
            return [("day", day)] if trigger == ("day", day) else []
        return [cause for one, cause in happened if trigger == one]

    def waiting(self, duty=None):
        """The keys of the open and late things, of all duties or one."""
        keys = [key for key, thing in self.now["things"].items() if thing[2] in ("open", "late")]
        return [key for key in keys if duty in (None, key[0])]

    def close(self, key, how, clause, cause):
        thing = self.now["things"][key]
        thing[2:4] = [how, self.now["day"]]
        self.why[(how,) + key] = (self.now["day"], clause, cause)

    def free(self, wanted, clause, cause):
        for key in self.waiting():
            if wanted(key[0]):
                self.close(key, "freed", clause, cause)

    def bring(self, clause, coins, cause):
        _, name, _, _, act, span, _, _, _ = clause
        left = 0
        if act[0] == "pay":
            left = act[1][1] if act[1][0] == "coins" else coins * act[1][1] // act[1][2]
            if left == 0:
                return
        if len(self.waiting(name)) < 2:
            number = 1 + sum(key[0] == name for key in self.now["things"])
            day = self.now["day"]
            self.amounts[name, number] = left
            self.why["brought", name, number] = (day, name, cause)
            self.now["things"][name, number] = [day, due_day(day, span, self.rest), "open", day, left, None]

    def send(self, word, cause):
        keys = []
        for key in self.waiting():
            act = self.by_name[key[0]][4]
            if act[0] == "send" and word in act[1]:
                keys.append((self.now["things"][key][1], self.places[key[0]], key[1], key))
        for row in sorted(keys)[:1]:
            self.close(row[3], "done", None, cause)
        return [row[3] for row in sorted(keys)[:1]]

    def has_fee(self, fee, duty):
        return any(clause[:3] == ("fee", fee, duty) for clause in self.clauses)

    def debts(self, sender, payee):
        """Lists [order, key of a thing or fee, what is left]."""
        rows = []
        for key in self.waiting():
            clause = self.by_name[key[0]]
            if clause[2:4] == (sender, payee) and clause[4][0] == "pay":
                thing = self.now["things"][key]
                rows.append([(0, thing[1], self.places[key[0]], key[1]), key, thing[4]])
        for key, (grown, paid, pair, due) in self.now["fees"].items():
            if pair == (sender, payee) and grown > paid:
                order = (0, due, self.places[key[0]], key[2]) if self.has_fee(*key[:2]) else (1, *key)
                rows.append([order, key, grown - paid])
        return sorted(rows)

    def pay(self, sender, payee, coins, source, cause):
        done = []
        for _, key, left in self.debts(sender, payee):
            part = min(left, coins)
            coins -= part
            goal = ("thing", *key) if len(key) == 2 else ("fee", key[0], key[2])
            if part:
                self.rows.append((self.now["day"], source, sender, payee, goal, part))
            if len(key) == 3:
                self.now["fees"][key][1] += part
                continue
            self.now["things"][key][4] -= part
            if part == left:
                self.close(key, "done", None, cause)
                done.append(key)
        if source[0] == "letter" and coins:
            self.rows.append((self.now["day"], source, sender, payee, ("put by",), coins))
        self.now["purses"][sender, payee] = self.now["purses"].get((sender, payee), 0) + coins
        return done

    def evening(self, ahead):
        done, broken = [], []
        for sender in self.parties:
            for payee in self.parties:
                coins = self.now["purses"].pop((sender, payee), 0)
                paying = [row for row in self.rows if row[1][0] == "letter" and row[2:4] == (sender, payee)]
                cause = ("counts", *paying[-1][1][1:]) if paying else None
                done += self.pay(sender, payee, coins, ("put by",), cause)
        for key, thing in self.now["things"].items():
            if thing[2] == "open" and thing[1] == self.now["day"]:
                thing[2:] = ["late", thing[1], thing[4], thing[1]]
                self.why[("broken",) + key] = (thing[1], None, ("brought",) + key)
                broken.append(key)
        for fee in self.clauses:
            for key, thing in self.now["things"].items():
                if fee[0] == "fee" and key[0] == fee[2]:
                    if ahead["things"][key][2] == "late" and thing[2] == "late":
                        pair = self.by_name[fee[2]][2:4]
                        row = self.now["fees"].setdefault((fee[1], *key), [0, 0, pair, thing[1]])
                        row[0] = max(row[0], min(row[0] + fee[3], fee[4]))
        return done, broken

    def chain(self, happening):
        """Tells what [16] tells of a happening, None where it didn't happen."""
        told = []
        while happening is not None:
            if happening[0] == "day":
                day, clause, cause = happening[1], None, None
            elif happening not in self.why:
                return None
            else:
                day, clause, cause = self.why[happening]
            told.append((happening, day, clause))
            happening = cause
        return told

    def told(self):
        """Tells all that is told of a State."""
        mine = {clause[1]: clause for clause in self.duties}

        def order(key):
            if len(key) == 2:
                return (0, self.places[key[0]], key[1]) if key[0] in mine else (1, *key)
            return (0, self.places[key[0]], key[2]) if self.has_fee(*key[:2]) else (1, *key)
        things = [(key, self.now["things"][key]) for key in sorted(self.now["things"], key=order)]
        fees = [(key, self.now["fees"][key]) for key in sorted(self.now["fees"], key=order)]
        owed = []
        for key in self.waiting():
            _, _, who, whom, act, _, _, _, _ = self.by_name[key[0]]
            _, due, _, _, left, _ = self.now["things"][key]
            owed.append((who, whom, act[1] if act[0] == "send" else ("coins",), due, left))
        for key, (grown, paid, pair, due) in fees:
            if grown > paid:
                owed.append((*pair, ("coins",), due, grown - paid))
        return {
            "day": self.now["day"],
            "ended": self.now["ended"],
            "things": [key + tuple(thing[:5]) for key, thing in things],
            "broken": [key + (thing[5],) for key, thing in things if thing[5] is not None],
            "fees": [(key[0], key[2], row[0], row[1]) for key, row in fees],
            "owed": sorted(owed),
            "may": sorted(row[0] for row in self.words if self.true(row[3], self.now)),
            "had": sorted(self.now["had"]),
            "put_by": {pair: coins for pair, coins in self.now["purses"].items() if coins},
        }


def told_days(agreement, letters, last):
    """Lists what the oracle tells behind each day, to the last one."""
    return Oracle(agreement, letters).days(last)


def told_days_by(versions, letters, last):
    """Lists what the oracle tells of versions behind each day, to the last one."""
    return Oracle(versions[0][1], letters, versions[1:]).days(last)


def told_of(state):
    """Tells what is told of a State in the form in which the oracle tells it."""
    return {
        "day": state.day, "ended": state.ended, "things": state.things(), "broken": state.broken(),
        "fees": state.fees(), "owed": state.owed(), "may": state.may(), "had": state.had(), "put_by": state.put_by(),
    }
