"""Agreements part by part as rows of the language."""


def agreement_rows(agreement):
    """Lists the rows of an agreement."""
    parties, rest, words, clauses = agreement
    weekdays, holidays = rest
    rows = [" ".join(["parties", *parties])]
    if weekdays:
        rows.append(numbers_row("rest", weekdays))
    if holidays:
        rows.append(numbers_row("holiday", holidays))
    rows.extend([word_row(word) for word in words])
    rows.extend([clause_row(clause) for clause in clauses])
    return rows


def numbers_row(head, numbers):
    """Writes a row of numbers."""
    return " ".join([head, *[str(number) for number in numbers]])


def word_row(word):
    """Writes a word's row."""
    name, sender, payee, condition = word
    goal = "" if payee is None else f" to {payee}"
    return f"word {name} by {sender}{goal}{while_text(condition)}"


def clause_row(clause):
    """Writes a clause's row."""
    kind, name = clause[:2]
    if kind == "duty":
        return duty_row(clause)
    if kind == "fee":
        duty, each, most = clause[2:]
        return f"fee {name} : {each} at most {most} for {duty}"
    if kind == "free":
        duty, trigger, condition = clause[2:]
        return f"free {name} : {duty} after {trigger_text(trigger)}{while_text(condition)}"
    trigger, condition = clause[2:]
    return f"end {name} : after {trigger_text(trigger)}{while_text(condition)}"


def duty_row(clause):
    """Writes a duty's row."""
    name, who, whom, act, span, trigger, condition, stays = clause[1:]
    unit, many = span
    head = f"duty {name} : {who} must {act_text(act)} to {whom} within {many} {unit}"
    tail = " stays" if stays else ""
    return f"{head} after {trigger_text(trigger)}{while_text(condition)}{tail}"


def act_text(act):
    """Writes an act."""
    kind, what = act
    if kind == "send":
        words = " or ".join(what)
        return f"send {words}"
    if what[0] == "coins":
        return f"pay {what[1]} coins"
    return f"pay {what[1]} / {what[2]}"


def trigger_text(trigger):
    """Writes a trigger."""
    if trigger[0] == "every":
        _, first, step = trigger
        return f"every {step} from {first}"
    return " ".join([str(part) for part in trigger])


def while_text(condition):
    """Writes a condition behind what it belongs to; nothing where it is left out."""
    if condition is None:
        return ""
    return f" while {condition_text(condition)}"


def condition_text(condition):
    """Writes a condition."""
    kind = condition[0]
    if kind == "not":
        return f"not {condition_text(condition[1])}"
    if kind in ("all", "any"):
        parts = [condition_text(part) for part in condition[1:]]
        joined = " and ".join(parts) if kind == "all" else " or ".join(parts)
        return f"( {joined} )"
    return " ".join([str(part) for part in condition])
