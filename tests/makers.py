"""Agreements and letters of all kinds, made by a seed: the same each time."""

import random

from dealtongue.agreements import first_wrong

PARTIES = ("ann", "bob", "cat", "dan")
MOST = 1000000000


class Maker:
    """Makes an agreement in which much happens in some sixty days, and letters for it."""

    def __init__(self, seed):
        self.random = random.Random(seed)
        self.parties = PARTIES[:self.random.choice((2, 2, 3, 4))]
        self.duties = ["da", "db", "dc", "dd", "de", "df"][:self.random.randint(1, 6)]
        self.names = ["wa", "wb", "wc", "wd", "we", "wf", "wg", "wh"][:self.random.randint(2, 8)]
        self.routes = {}
        for name in self.names:
            sender, payee = self.pair()
            self.routes[name] = (sender, payee if self.random.random() < 0.5 else None)

    def agreement(self):
        words = tuple((name, *self.routes[name], self.condition(0.7)) for name in self.names)
        clauses = [self.duty(name) for name in self.duties]
        payable = [clause[1] for clause in clauses if (clause[2], clause[3]) in self.routes.values()]
        for name in ("xa", "xb", "xc", "xd", "xe", "xf")[:self.random.randint(0, 12 - len(clauses))]:
            clauses.append(self.other(name, payable))
        self.random.shuffle(clauses)
        return (self.parties, self.rest(), words, tuple(clauses))

    def rest(self):
        some = self.random
        weekdays = sorted(some.sample(range(7), some.choice((0, 0, 2, 4))))
        return (tuple(weekdays), tuple(sorted(some.sample(range(70), some.choice((0, 0, 1, 20))))))

    def pair(self):
        return tuple(self.random.sample(self.parties, 2))

    def duty(self, name):
        some = self.random
        plain = [word for word in self.names if self.routes[word][1] is None]
        coined = [word for word in self.names if self.routes[word][1] is not None]
        trigger = self.trigger(ended=True)
        if coined and (not plain or some.random() < 0.6):
            who, whom = self.routes[some.choice(coined)]
            act = ("pay", ("coins", some.choice((1, 5, 9, 30, MOST))))
            if some.random() < 0.4:
                trigger = ("letter", some.choice(coined))
                bottom = some.choice((1, 2, 7, 1000))
                act = ("pay", ("share", some.randint(1, bottom), bottom))
        else:
            word = some.choice(plain)
            who = self.routes[word][0]
            whom = some.choice([party for party in self.parties if party != who])
            others = [other for other in plain if other != word and self.routes[other][0] == who]
            act = ("send", (word, *some.sample(others, min(len(others), some.randint(0, 1)))))
        span = (some.choice(("days", "work")), some.choice((1, 1, 2, 3, 5, 30)))
        return ("duty", name, who, whom, act, span, trigger, self.condition(0.6), some.random() < 0.3)

    def other(self, name, payable):
        some = self.random
        draw = some.random()
        if draw < 0.45 and payable:
            return ("fee", name, some.choice(payable), some.choice((1, 2, 5)), some.choice((1, 4, 13, 200, MOST)))
        if draw < 0.85:
            return ("free", name, some.choice(self.duties), self.trigger(), self.condition(0.5))
        return ("end", name, self.trigger(late=True), self.condition(0.5))

    def trigger(self, ended=False, late=False):
        some = self.random
        draw = some.random()
        if draw < 0.15:
            return ("day", some.randint(20 if late else 0, 60))
        if draw < 0.35:
            return ("every", some.randint(20 if late else 0, 40), some.choice((1, 2, 3, 7, 60)))
        if draw < 0.6:
            return ("letter", some.choice(self.names))
        if draw < 0.78:
            return ("done", some.choice(self.duties))
        if draw < 0.95 or not ended:
            return ("broken", some.choice(self.duties))
        return ("ended",)

    def condition(self, none, depth=4):
        some = self.random
        if some.random() < none:
            return None
        draw = some.random()
        if draw < 0.2 or (depth == 1 and draw < 0.6):
            return ("had", some.choice(self.names))
        if draw < 0.35:
            return ("owes", some.choice(self.duties))
        if draw < 0.45:
            return ("broken", some.choice(self.duties))
        if draw < 0.5:
            return ("ended",)
        if draw < 0.6 or depth == 1:
            return ("before", some.randint(0, 60))
        if draw < 0.8:
            return ("not", self.condition(0, depth - 1))
        word = "all" if draw < 0.87 else "any"
        return (word, *[self.condition(0, depth - 1) for _ in range(some.randint(2, 4))])

    def letters(self, last=60):
        some = self.random
        days = [(some.randint(0, last), some.randint(1, 99)) for _ in range(some.choice((0, 5, 30, 60)))]
        found = []
        for said, turn in sorted(set(days)):
            word = some.choice(self.names)
            sender, payee = self.routes[word]
            coins = some.choice((1, 3, 10, 40)) if payee else 0
            draw = some.random()
            if draw < 0.04:
                sender = some.choice(self.parties + ("duty", "eve"))
            elif draw < 0.08:
                coins = 0 if coins else 5
            elif draw < 0.1:
                word = some.choice(("other", "word", self.duties[0], self.parties[0]))
            found.append((said, turn, sender, word, coins))
        some.shuffle(found)
        return found


def made(seed):
    """Tells the agreement and the letters of a seed."""
    maker = Maker(seed)
    return maker.agreement(), maker.letters()


def amended(maker, elder):
    """Makes another text out of an elder one: some of its clauses as they were, some otherwise, some left out."""
    some = maker.random
    while True:
        for name in maker.names:
            if some.random() < 0.1:
                maker.routes[name] = (*maker.pair(), None)[:2] if some.random() < 0.5 else (maker.pair()[0], None)
        fresh = maker.agreement()
        known = {clause[1]: clause for clause in elder[3]}
        clauses = []
        for clause in fresh[3]:
            old = known.get(clause[1])
            if old is not None and some.random() < 0.7:
                clause = old
                if clause[0] == "duty" and some.random() < 0.3:
                    clause = clause[:5] + (("days", some.randint(1, 9)),) + clause[6:]
            if clause[0] == "duty" or some.random() < 0.9:
                clauses.append(clause)
        whole = fresh[:3] + (tuple(clauses[some.choice((0, 0, 0, 1)):]),)
        if first_wrong(whole) is None:
            return whole


def made_versions(seed, last=60):
    """Tells the versions and the letters of a seed."""
    maker = Maker(seed)
    texts = [maker.agreement()]
    letters = maker.letters(last)
    for _ in range(maker.random.choice((0, 1, 1, 2, 3, 5))):
        texts.append(amended(maker, maker.random.choice(texts)))
    firsts = [0] + sorted(maker.random.sample(range(1, last + 1), len(texts) - 1))
    return list(zip(firsts, texts)), letters
