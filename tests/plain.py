"""A plain going over the days, one by one, of agreements whose duties are sent by plain words, to day 3000.

It is lighter than the oracle, and knows of duties alone: days and steps bring them, letters of their words do them.
"""

import random

from tests.oracle import due_day


def plainly(agreement, letters, last, asked=()):
    """Tells a dict from each of the days asked, and the last one, to (things, broken, owed, had) behind it."""
    parties, rest, words, clauses = agreement
    told = {}
    things = []
    had = set()
    for day in range(last + 1):
        for clause in clauses:
            _, name, _, _, _, span, trigger, condition, _ = clause
            falls = day == trigger[1] if trigger[0] == "day" else day in range(trigger[1], 3001, trigger[2])
            if falls and (condition is None or day >= condition[1][1]):
                mine = [thing for thing in things if thing["duty"] == name]
                if sum(thing["how"] in ("open", "late") for thing in mine) < 2:
                    things.append({"duty": name, "number": len(mine) + 1, "brought": day, "on": day, "how": "open",
                                   "due": due_day(day, span, rest), "broken": None})
        for letter in sorted(letters):
            if letter[0] == day:
                had.add(letter[3])
                do_first(clauses, things, letter)
        for thing in things:
            if thing["how"] == "open" and thing["due"] == day:
                thing.update(how="late", on=day, broken=day)
        if day == last or day in asked:
            told[day] = told_plainly(clauses, things, had)
    return told


def do_first(clauses, things, letter):
    """Does the first thing that a letter can do."""
    names = [clause[1] for clause in clauses]
    mine = {clause[1] for clause in clauses if letter[3] in clause[4][1]}
    waiting = [thing for thing in things if thing["duty"] in mine and thing["how"] in ("open", "late")]
    if waiting:
        first = min(waiting, key=lambda thing: (thing["due"], names.index(thing["duty"]), thing["number"]))
        first.update(how="done", on=letter[0])


def told_plainly(clauses, things, had):
    """Tells (things, broken, owed, had) as a State does."""
    names = [clause[1] for clause in clauses]
    rows = sorted(things, key=lambda thing: (names.index(thing["duty"]), thing["number"]))
    owed = [(*clauses[names.index(thing["duty"])][2:4], clauses[names.index(thing["duty"])][4][1], thing["due"], 0)
            for thing in rows if thing["how"] in ("open", "late")]
    fields = ("duty", "number", "brought", "due", "how", "on")
    return ([tuple(thing[field] for field in fields) + (0,) for thing in rows],
            [(thing["duty"], thing["number"], thing["broken"]) for thing in rows if thing["broken"] is not None],
            sorted(owed), sorted(had))


def made_plain(seed, late=False):
    """Tells an agreement of one to six duties that days and steps bring, and none or few letters for it."""
    some = random.Random(seed)
    names = ("worda", "wordb", "wordc", "wordd", "worde", "wordf")[:some.randint(1, 6)]
    weekdays = tuple(sorted(some.sample(range(7), some.choice((0, 1, 2, 4)))))
    least = 2900 if late else 0
    holidays = tuple(sorted(some.sample(range(least, 3001), some.choice((0, 1, 20)))))
    clauses = []
    for at, name in enumerate(names):
        span = (some.choice(("days", "work")), some.randint(1, 30))
        trigger = ("day", some.randint(2800 if late else 0, 2990))
        if some.random() < 0.6:
            trigger = ("every", some.randint(least, 2990) if late else some.randint(0, 90), some.randint(1, 60))
        condition = some.choice((None, ("not", ("before", some.choice((0, 5, 40, 1700, 2950))))))
        clauses.append(("duty", "d" + "abcdef"[at], "ann", "bob", ("send", (name,)), span, trigger, condition,
                        False))
    letters = []
    for said in sorted(some.sample(range(2800 if late else 0, 3001), some.choice((0, 0, 3, 9)))):
        letters.append((said, some.randint(1, 99), "ann", some.choice(names), 0))
    words = tuple((name, "ann", None, None) for name in names)
    return (("ann", "bob"), (weekdays, holidays), words, tuple(clauses)), letters
