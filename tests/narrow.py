"""Agreements without coins that are narrow enough to be looked through, made by a seed: the same each time."""

import random

PARTIES = ("ann", "bob", "cat")
WORDS = ("wa", "wb", "wc")
DUTIES = ("da", "db")


class Narrow:
    """Makes an agreement within the bounds of promise 23, up to the given day and with the given share of conditions."""

    def __init__(self, seed, last=10, plain=0.6, clauses=5):
        self.random = random.Random(seed)
        self.last = last
        self.plain = plain
        self.parties = PARTIES[:self.random.choice((2, 2, 2, 3))]
        self.names = WORDS[:self.random.choice((1, 2, 2, 3, 3))]
        self.senders = {name: self.random.choice(self.parties) for name in self.names}
        self.duties = DUTIES[:self.random.choice((1, 2, 2))]
        self.most = clauses
        self.stepped = self.random.random() < 0.4

    def agreement(self):
        some = self.random
        words = tuple((name, self.senders[name], None, self.condition(self.plain)) for name in self.names)
        clauses = []
        outer = some.choice(self.duties)
        for name in self.duties:
            clauses.append(self.duty(name, name == outer))
        for name in ("xa", "xb", "xc", "xd", "xe", "xf", "xg", "xh")[:some.randint(0, self.most)]:
            if some.random() < 0.7:
                clauses.append(("free", name, some.choice(self.duties), self.trigger(True), self.condition(0.5)))
            else:
                clauses.append(("end", name, self.trigger(True), self.condition(0.4)))
        some.shuffle(clauses)
        return (self.parties, self.rest(), words, tuple(clauses))

    def rest(self):
        some = self.random
        holidays = tuple(sorted(some.sample(range(self.last + 1), some.choice((0, 0, 0, 1, 3)))))
        if self.stepped:
            return ((), holidays)
        return (tuple(sorted(some.sample(range(7), some.choice((0, 0, 1, 2, 4))))), holidays)

    def duty(self, name, outer):
        some = self.random
        who_words = some.sample(self.names, some.randint(1, min(2, len(self.names))))
        who = self.senders[who_words[0]]
        act = ("send", tuple(word for word in who_words if self.senders[word] == who))
        whom = some.choice([party for party in self.parties if party != who])
        span = (some.choice(("days", "work")), some.randint(1, 3))
        trigger = self.trigger(outer)
        if some.random() < 0.1:
            trigger = ("ended",)
        return ("duty", name, who, whom, act, span, trigger, self.condition(self.plain), some.random() < 0.3)

    def trigger(self, outer):
        some = self.random
        draw = some.random()
        if draw < 0.35 and outer:
            return ("letter", some.choice(self.names))
        if draw < 0.6 and outer and self.stepped:
            return ("every", some.randint(0, self.last), some.randint(1, 4))
        if draw < 0.7:
            return ("day", some.randint(0, self.last))
        return (some.choice(("done", "broken")), some.choice(self.duties))

    def condition(self, none, depth=4):
        some = self.random
        if some.random() < none:
            return None
        draw = some.random()
        if draw < 0.25 or (depth == 1 and draw < 0.6):
            return ("had", some.choice(self.names))
        if draw < 0.4:
            return ("owes", some.choice(self.duties))
        if draw < 0.5:
            return ("broken", some.choice(self.duties))
        if draw < 0.55:
            return ("ended",)
        if draw < 0.65 or depth == 1:
            return ("before", some.randint(0, self.last))
        if draw < 0.85:
            return ("not", self.condition(0, depth - 1))
        word = "all" if draw < 0.93 else "any"
        return (word, *[self.condition(0, depth - 1) for _ in range(some.randint(2, 3))])


class Contested(Narrow):
    """Makes agreements in which what one party sends often keeps another one from its duties, or lets it."""

    def __init__(self, seed, last=5):
        super().__init__(seed, last, 0.7, 1)
        self.names = WORDS
        self.senders = {name: party for name, party in zip(WORDS, self.parties + (self.random.choice(self.parties),))}
        self.duties = DUTIES

    def agreement(self):
        parties, rest, words, clauses = super().agreement()
        return (parties, rest, tuple(word[:3] + (self.leave(word),) for word in words), clauses)

    def leave(self, word):
        """A condition of a word that others can bring about, or keep from being so."""
        some = self.random
        others = [name for name in self.names if self.senders[name] != word[1]]
        draw = some.random()
        if draw < 0.25:
            return None
        plain = some.choice([("had", some.choice(others)), ("owes", some.choice(self.duties)),
                             ("broken", some.choice(self.duties)), ("before", some.randint(1, self.last))])
        return plain if draw < 0.5 else ("not", plain)
