"""Whether conditions hold as things stand, and how."""


def is_so(condition, standing):
    """Tells whether a condition holds; one that is left out does."""
    if condition is None:
        return True
    kind = condition[0]
    if kind == "had":
        return condition[1] in standing.heard
    if kind == "owes":
        return len(standing.pending[condition[1]]) > 0
    if kind == "broken":
        return condition[1] in standing.breached
    if kind == "ended":
        return standing.ended is not None
    if kind == "before":
        return standing.day < condition[1]
    parts = [is_so(part, standing) for part in condition[1:]]
    if kind == "not":
        return not parts[0]
    return all(parts) if kind == "all" else any(parts)


def words_that_may(deal, standing):
    """Lists, rising, the words that would count now, were they sent as they are to be sent."""
    return sorted([name for name in deal.words if is_so(deal.words[name][2], standing)])


def weigh(condition, standing):
    """Tells how a condition holds: (its first word, whether it does, its parts likewise or what bears it out)."""
    kind = condition[0]
    truth = is_so(condition, standing)
    if kind in ("not", "all", "any"):
        return (kind, truth, [weigh(part, standing) for part in condition[1:]])
    if kind == "had":
        return (kind, truth, [letter[:2] for letter in standing.counted if letter[3] == condition[1]])
    if kind == "owes":
        return (kind, truth, sorted([thing.number for thing in standing.pending[condition[1]]]))
    if kind == "broken":
        things = standing.all_things[condition[1]]
        return (kind, truth, [thing.number for thing in things if thing.late_on is not None])
    return (kind, truth, [])
