"""What a book has been told, and what was known of it on each day."""

from dealtongue.agreements import first_wrong
from dealtongue.errors import NoAgreement, NoDay, NoDeed, NoLetter, NoLetterThere, NoVersions, Twice, Withdrawn
from dealtongue.kinds import is_day, is_number
from dealtongue.letters import MOST_LETTERS, is_letter
from dealtongue.versions import MOST_VERSIONS

DEED_SIZES = {"day": 2, "post": 2, "dispute": 3, "withdraw": 3, "rule": 4, "amend": 3}

# How a letter stands.
COUNTS = "counts"
OPEN = "open"
OUT = "out"
WITHDRAWN = "withdrawn"


class Memory:
    """What is known from which day on: `facts` are pairs (day, deed), in the order of the deeds. It never changes."""

    def __init__(self, agreement, today, facts):
        self.agreement = agreement
        self.now = today
        self.facts = facts

    def behind(self, deed):
        """Tells the memory behind a deed; refuses a deed that can't be."""
        refuse_no_deed(deed)
        kind = deed[0]
        if kind == "day":
            if not is_day(deed[1]) or deed[1] <= self.now:
                raise NoDay("a later day is wanted")
            return Memory(self.agreement, deed[1], self.facts)
        if kind == "post":
            self.refuse_to_post(deed[1])
        elif kind == "amend":
            self.refuse_to_amend(deed[1], deed[2])
        else:
            self.refuse_to_touch(deed[1], deed[2])
        return Memory(self.agreement, self.now, self.facts + [(self.now, deed)])

    def refuse_to_post(self, letter):
        """Refuses a letter that can't be posted today."""
        if not is_letter(letter) or letter[0] > self.now:
            raise NoLetter("a letter said by today is wanted")
        posted = self.fates_by(self.now)
        if len(posted) == MOST_LETTERS:
            raise NoLetter("no more letters can be posted")
        if letter[:2] in posted:
            raise Twice(letter[0], letter[1])

    def refuse_to_touch(self, said, turn):
        """Refuses what is to be done with a letter that isn't there any more, or never was."""
        posted = self.fates_by(self.now)
        if not is_number(said) or not is_number(turn) or (said, turn) not in posted:
            raise NoLetterThere(said, turn)
        if posted[said, turn] == WITHDRAWN:
            raise Withdrawn(said, turn)

    def refuse_to_amend(self, first, agreement):
        """Refuses an amendment that can't be made."""
        if not is_day(first):
            raise NoDay("a day is wanted")
        place = first_wrong(agreement)
        if place is not None:
            raise NoAgreement(place)
        firsts = [version[0] for version in self.versions_by(self.now)]
        if agreement[0] != self.agreement[0] or len(set(firsts + [first])) > MOST_VERSIONS:
            raise NoVersions("at most six texts of the same parties are wanted")

    def letters_by(self, known):
        """Lists all letters posted by a day, rising."""
        return sorted([deed[1] for day, deed in self.facts if deed[0] == "post" and day <= known])

    def fates_by(self, known):
        """Tells a dict from the (said, turn) of each letter posted by a day to how it stands, as known on that day."""
        fates = {}
        for day, deed in self.facts:
            if day <= known and deed[0] != "amend":
                if deed[0] == "post":
                    fates[deed[1][:2]] = COUNTS
                else:
                    fates[deed[1], deed[2]] = fate_by(deed)
        return fates

    def standing_by(self, known):
        """Tells, as known on a day, the letters that count or are open, and the (said, turn) of the open ones."""
        fates = self.fates_by(known)
        letters = [letter for letter in self.letters_by(known) if fates[letter[:2]] in (COUNTS, OPEN)]
        return (letters, [letter[:2] for letter in letters if fates[letter[:2]] == OPEN])

    def versions_by(self, known):
        """Lists the versions as known on a day."""
        texts = {0: self.agreement}
        for day, deed in self.facts:
            if day <= known and deed[0] == "amend":
                texts[deed[1]] = deed[2]
        return [(first, texts[first]) for first in sorted(texts)]


def fate_by(deed):
    """Tells how a letter stands behind a deed that touches it."""
    if deed[0] == "dispute":
        return OPEN
    if deed[0] == "withdraw":
        return WITHDRAWN
    return COUNTS if deed[3] else OUT


def refuse_no_deed(thing):
    """Refuses what is no deed by its form."""
    if not is_deed(thing):
        raise NoDeed("a deed is wanted")


def is_deed(thing):
    """Tells whether a thing is a deed by its form."""
    if not isinstance(thing, tuple) or not thing or not isinstance(thing[0], str):
        return False
    if DEED_SIZES.get(thing[0]) != len(thing):
        return False
    return thing[0] != "rule" or isinstance(thing[3], bool)
