"""The book: deeds of each day, and what is told of a day as it is known on another one."""

from dealtongue.courses import Course
from dealtongue.days import refuse_no_day
from dealtongue.disputes import MOST_OPEN, answer_of, each_reading
from dealtongue.errors import NoDay, NoDeed, NothingDone, Open, TooWide
from dealtongue.kinds import is_day
from dealtongue.memories import Memory
from dealtongue.reckoner import state_behind
from dealtongue.refusals import refuse_no_agreement
from dealtongue.versions import days_apart


class Book:
    """Keeps deeds, and tells what they make."""

    def __init__(self, agreement, *, today=0):
        refuse_no_agreement(agreement)
        refuse_no_day(today)
        self.memory = Memory(agreement, today, [])
        # Pairs of a deed or run and the memory ahead of it; of those taken back, of it and the memory behind it.
        self.done = []
        self.taken_back = []

    def do(self, deed):
        """Does a deed."""
        self.take_up(deed, self.memory.behind(deed))

    def run(self, deeds):
        """Does all of a list of deeds, or none."""
        if not isinstance(deeds, list):
            raise NoDeed("a list of deeds is wanted")
        memory = self.memory
        for deed in deeds:
            memory = memory.behind(deed)
        self.take_up(list(deeds), memory)

    def undo(self):
        """Takes back the last deed or run that isn't taken back."""
        if not self.done:
            raise NothingDone("there is nothing to take back")
        what, ahead = self.done.pop()
        self.taken_back.append((what, self.memory))
        self.memory = ahead

    def again(self):
        """Does again the deed or run that was taken back last."""
        if not self.taken_back:
            raise NothingDone("there is nothing to do again")
        what, behind = self.taken_back.pop()
        self.done.append((what, self.memory))
        self.memory = behind

    def told(self, day, *, known=None):
        """Tells the State of a day as known on another one."""
        day_known = self.day_known(day, known)
        return state_behind(self.memory.versions_by(day_known), self.settled_letters(day_known), day)

    def readings(self, day, *, known=None):
        """Lists (those that count among the open ones, State) of a day, as known on another one."""
        return self.readings_by(day, self.day_known(day, known))

    def letters(self):
        """Lists all letters that were posted, rising."""
        return self.memory.letters_by(self.memory.now)

    def deeds(self):
        """Lists the deeds that stand, runs as lists."""
        return [list(what) if isinstance(what, list) else what for what, _ in self.done]

    def changed(self, day, *, known):
        """Lists the days, to a last one, of which something else is told than as known on another day."""
        refuse_no_day(day)
        self.refuse_not_known(known)
        courses = []
        for day_known in (known, self.memory.now):
            courses.append(Course(self.memory.versions_by(day_known), self.settled_letters(day_known)))
        return days_apart(courses[0], courses[1], day)

    def asked(self, condition, day, *, known=None):
        """Tells whether a condition holds behind a day: "yes", "no" or "open"."""
        return answer_of(self.readings_by(day, self.day_known(day, known)), condition)

    def today(self):
        """Tells today."""
        return self.memory.now

    def take_up(self, what, memory):
        """Takes note of a deed or run that was done, and of the memory behind it."""
        self.done.append((what, self.memory))
        self.taken_back = []
        self.memory = memory

    def day_known(self, day, known):
        """Tells the day by which it is to be known; refuses days that are none."""
        refuse_no_day(day)
        if known is None:
            return self.memory.now
        self.refuse_not_known(known)
        return known

    def refuse_not_known(self, known):
        """Refuses a day by which nothing can be known: none, or one later than today."""
        if not is_day(known) or known > self.memory.now:
            raise NoDay("a day by today is wanted")

    def settled_letters(self, known):
        """Lists the letters that count, as known on a day; refuses to where some are open."""
        letters, open_ones = self.memory.standing_by(known)
        if open_ones:
            raise Open("some letter is in dispute")
        return letters

    def readings_by(self, day, known):
        """Lists the readings of a day, as known on a day."""
        letters, open_ones = self.memory.standing_by(known)
        if len(open_ones) > MOST_OPEN:
            raise TooWide("too many letters are in dispute")
        return each_reading(self.memory.versions_by(known), letters, open_ones, day)
