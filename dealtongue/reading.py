"""Rows of the language, read word by word.

Only the form is looked at here: what bounds and names ask for is a thing of the agreement that the rows make.
"""

from dealtongue.errors import NoText
from dealtongue.kinds import is_name

MOST_FIGURES = 30
DEEPEST_WRITTEN = 40


class Reader:
    """Goes through the words of one row, and refuses the row where it isn't as wanted."""

    def __init__(self, text, row):
        self.parts = text.split(" ")
        self.at = 0
        self.row = row

    def refuse(self):
        """Refuses the row."""
        raise NoText(self.row)

    def sees(self, word):
        """Tells whether this word is the next one."""
        return self.at < len(self.parts) and self.parts[self.at] == word

    def skips(self, word):
        """Tells whether this word is the next one, and goes behind it if so."""
        seen = self.sees(word)
        if seen:
            self.at += 1
        return seen

    def want(self, word):
        """Goes behind this word, which has to be the next one."""
        if not self.skips(word):
            self.refuse()

    def take(self):
        """Tells the next word, whatever it is."""
        if self.is_over():
            self.refuse()
        self.at += 1
        return self.parts[self.at - 1]

    def take_name(self):
        """Tells the next word, a name."""
        word = self.take()
        if not is_name(word):
            self.refuse()
        return word

    def take_number(self):
        """Tells the number that the next word is."""
        word = self.take()
        if not is_written_number(word):
            self.refuse()
        return int(word)

    def is_over(self):
        """Tells whether no word is left."""
        return self.at == len(self.parts)

    def finish(self):
        """Refuses the row where words are left."""
        if not self.is_over():
            self.refuse()


def is_written_number(word):
    """Tells whether a word is a whole number, from 0 on, without noughts ahead."""
    if not word.isdigit() or len(word) > MOST_FIGURES:
        return False
    return word == "0" or word[0] != "0"


def take_names(reader):
    """Reads one or more names, to the end of the row."""
    names = [reader.take_name()]
    while not reader.is_over():
        names.append(reader.take_name())
    return tuple(names)


def take_numbers(reader):
    """Reads one or more numbers, to the end of the row."""
    numbers = [reader.take_number()]
    while not reader.is_over():
        numbers.append(reader.take_number())
    return tuple(numbers)


def take_word(reader):
    """Reads what stands behind `word`."""
    name = reader.take_name()
    reader.want("by")
    sender = reader.take_name()
    payee = None
    if reader.skips("to"):
        payee = reader.take_name()
    return (name, sender, payee, take_while(reader))


def take_clause(reader, kind):
    """Reads what stands behind the word that tells a clause's kind."""
    name = reader.take_name()
    reader.want(":")
    if kind == "duty":
        return take_duty(reader, name)
    if kind == "fee":
        return take_fee(reader, name)
    duty = ()
    if kind == "free":
        duty = (reader.take_name(),)
    reader.want("after")
    trigger = take_trigger(reader)
    return (kind, name, *duty, trigger, take_while(reader))


def take_duty(reader, name):
    """Reads what stands behind the name of a duty."""
    who = reader.take_name()
    reader.want("must")
    act = take_act(reader)
    reader.want("to")
    whom = reader.take_name()
    reader.want("within")
    span = take_span(reader)
    reader.want("after")
    trigger = take_trigger(reader)
    condition = take_while(reader)
    stays = reader.skips("stays")
    return ("duty", name, who, whom, act, span, trigger, condition, stays)


def take_fee(reader, name):
    """Reads what stands behind the name of a fee."""
    each = reader.take_number()
    reader.want("at")
    reader.want("most")
    most = reader.take_number()
    reader.want("for")
    return ("fee", name, reader.take_name(), each, most)


def take_act(reader):
    """Reads an act."""
    if reader.skips("send"):
        words = [reader.take_name()]
        while reader.skips("or"):
            words.append(reader.take_name())
        return ("send", tuple(words))
    reader.want("pay")
    number = reader.take_number()
    if reader.skips("/"):
        return ("pay", ("share", number, reader.take_number()))
    reader.want("coins")
    return ("pay", ("coins", number))


def take_span(reader):
    """Reads a span."""
    many = reader.take_number()
    if reader.skips("days"):
        return ("days", many)
    reader.want("work")
    return ("work", many)


def take_trigger(reader):
    """Reads a trigger."""
    kind = reader.take()
    if kind == "day":
        return ("day", reader.take_number())
    if kind == "every":
        step = reader.take_number()
        reader.want("from")
        return ("every", reader.take_number(), step)
    if kind in ("letter", "done", "broken"):
        return (kind, reader.take_name())
    if kind != "ended":
        reader.refuse()
    return ("ended",)


def take_while(reader):
    """Reads `while` and a condition, or None where there is none."""
    if reader.skips("while"):
        return take_condition(reader, DEEPEST_WRITTEN)
    return None


def take_condition(reader, depth):
    """Reads a condition of at most so many within one another."""
    if depth == 0:
        reader.refuse()
    kind = reader.take()
    if kind == "(":
        return take_brackets(reader, depth - 1)
    if kind == "not":
        return ("not", take_condition(reader, depth - 1))
    if kind in ("had", "owes", "broken"):
        return (kind, reader.take_name())
    if kind == "before":
        return ("before", reader.take_number())
    if kind != "ended":
        reader.refuse()
    return ("ended",)


def take_brackets(reader, depth):
    """Reads what stands in brackets, behind the first one: two or more conditions, joined by one word."""
    parts = [take_condition(reader, depth)]
    joint = "and" if reader.sees("and") else "or"
    reader.want(joint)
    parts.append(take_condition(reader, depth))
    while reader.skips(joint):
        parts.append(take_condition(reader, depth))
    reader.want(")")
    return ("all" if joint == "and" else "any", *parts)
