"""A party that would keep its duties against all others, who play together: who can bring what about, and how soon.

A node is a day and the place behind its morning. From a node a day is played by turns, of which a tree is kept: a leaf
is the number of the node to which the day leads, or LOST where a thing of the party is broken in its evening; else a
tree is a pair (whether it is the party's turn, the trees to which what is sent leads).
"""

LOST = -1


class Game:
    """What may be played from a place on, on a day like the given one."""

    def __init__(self, machine, party, day, place):
        self.machine = machine
        self.parties = machine.deal.parties
        self.mine = self.parties.index(party)
        self.owing = [at for at, duty in enumerate(machine.duties) if duty.who == party]
        self.day = day
        self.place = place
        self.numbers = {}
        self.nodes = []
        self.trees = []
        # In how many days the others can bring it about from a node, 0 on the node's own day; of no other nodes.
        self.ranks = {}

    def fate(self):
        """Tells in how many days the others can bring it about from the morning on, None where they can't."""
        tree = self.tree_at(self.place, self.day, 0)
        self.solve()
        return self.days_by(tree)

    def best_word(self, turn):
        """Tells the word that is to be sent at a turn of the place's day, None where none is."""
        options = self.options_at(self.place, self.day, turn)
        trees = [self.tree_at(further, self.day, turn + 1) for _, further in options]
        self.solve()
        told = [(self.days_by(tree), word) for tree, (word, _) in zip(trees, options)]
        lost = [row for row in told if row[0] is not None]
        kept = [row for row in told if row[0] is None]
        if turn == self.mine:
            best = kept[0] if kept else max(lost, key=lambda row: row[0])
        else:
            best = min(lost, key=lambda row: row[0]) if lost else kept[0]
        return best[1]

    def options_at(self, place, day, turn):
        """Lists (word or None, the place to which it leads) of what the party at a turn can send."""
        machine = self.machine
        view = machine.view_of(place)
        options = [(None, place)]
        for at in machine.words_at(day, view):
            word, sender, _, _ = machine.words[at]
            if sender == self.parties[turn]:
                options.append((word, machine.send(place, day, view, at)))
        return options

    def tree_at(self, place, day, turn):
        """Tells the tree of what is left of a day from a turn on."""
        if turn == len(self.parties):
            return self.leaf_behind(place, day)
        trees = []
        for _, further in self.options_at(place, day, turn):
            tree = self.tree_at(further, day, turn + 1)
            if tree not in trees:
                trees.append(tree)
        return trees[0] if len(trees) == 1 else (turn == self.mine, trees)

    def leaf_behind(self, place, day):
        """Tells the leaf to which a day's evening leads."""
        behind, broken = self.machine.evening(place, day)
        if broken and any([broken[at] > 0 for at in self.owing]):
            return LOST
        coming = self.machine.day_like(day + 1)
        return self.number_of((coming, self.machine.dawn(behind, coming)))

    def number_of(self, node):
        """Tells the number of a node, a new one where it has none."""
        if node not in self.numbers:
            self.numbers[node] = len(self.nodes)
            self.nodes.append(node)
        return self.numbers[node]

    def solve(self):
        """Looks through all nodes that may come, and tells of each in how many days it can be brought about."""
        ahead = self.look_through()
        fresh = [number for number in range(len(self.nodes)) if self.is_lost(number)]
        rank = 0
        while fresh:
            for number in fresh:
                self.ranks[number] = rank
            rank += 1
            touched = {before: True for number in fresh for before in ahead.get(number, [])}
            fresh = [number for number in touched if number not in self.ranks and self.is_lost(number)]

    def look_through(self):
        """Finds the trees of all nodes that may come; tells a dict from each node to those that lead to it."""
        ahead = {}
        while len(self.trees) < len(self.nodes):
            number = len(self.trees)
            day, place = self.nodes[number]
            tree = self.tree_at(place, day, 0)
            self.trees.append(tree)
            for leaf in leaves_of(tree):
                ahead.setdefault(leaf, []).append(number)
        return ahead

    def is_lost(self, number):
        """Tells whether the others can bring it about from a node, by what was found of others."""
        return self.days_by(self.trees[number]) is not None

    def days_by(self, tree):
        """Tells in how many days the others can bring it about from a tree on, None where that wasn't found."""
        if isinstance(tree, int):
            if tree == LOST:
                return 0
            return self.ranks[tree] + 1 if tree in self.ranks else None
        mine, trees = tree
        days = [self.days_by(part) for part in trees]
        found = [many for many in days if many is not None]
        if mine:
            return max(found) if len(found) == len(days) else None
        return min(found) if found else None


def leaves_of(tree):
    """Lists the leaves of a tree."""
    if isinstance(tree, int):
        return [tree]
    found = []
    for part in tree[1]:
        found.extend(leaves_of(part))
    return found
