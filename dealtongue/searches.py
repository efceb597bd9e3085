"""Looking through all conduct: the earliest days ahead, of one day what the fewest letters lead to."""

from heapq import heappop, heappush


class Search:
    """Keeps what was found, by which steps it was found, and what of it is still to be looked at."""

    def __init__(self, beginning):
        self.waiting = []
        # Tuples (what was found, day, how many letters, the step ahead, (sender, word) or None where a day went by).
        self.steps = []
        self.put(beginning, 0, 0, -1, None)

    def put(self, what, day, many, ahead, letter):
        """Takes note of what was found."""
        heappush(self.waiting, (day, many, len(self.steps)))
        self.steps.append((what, day, many, ahead, letter))

    def is_over(self):
        """Tells whether nothing is left to be looked at."""
        return not self.waiting

    def take(self):
        """Tells which step is to be looked at now."""
        _, _, step = heappop(self.waiting)
        return step

    def found_by_letter(self, step, what, letter):
        """Takes note of what a letter (sender, word) leads to from a step."""
        _, day, many, _, _ = self.steps[step]
        self.put(what, day, many + 1, step, letter)

    def found_by_day(self, step, what):
        """Takes note of what the next day leads to from a step."""
        _, day, many, _, _ = self.steps[step]
        self.put(what, day + 1, many, step, None)

    def conduct_to(self, step):
        """Lists the letters that lead to a step."""
        said = []
        at = step
        while at >= 0:
            _, day, _, ahead, letter = self.steps[at]
            if letter is not None:
                said.append((day, letter))
            at = ahead
        told = []
        for day, (sender, word) in reversed(said):
            turn = 1 + len([letter for letter in told if letter[0] == day])
            told.append((day, turn, sender, word, 0))
        return told
