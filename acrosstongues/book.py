"""What has been told: the senses of three tongues, and their pairs."""

TONGUES = (1, 2, 3)
MOST_SENSES = 40


# links leads from a tongue, a sense and another tongue to equivalents. Each pair
# stands at both its senses, so that each direction is read alike.
class Book:
    def __init__(self):
        self.links = {1: {}, 2: {}, 3: {}}

    def has_sense(self, s, x):
        return x in self.links[s]

    def senses(self, s):
        return sorted(self.links[s])

    def equivalents(self, s, t, x):
        return sorted(self.links[s][x][t])

    def paired(self, s, t, x, y):
        return self.has_sense(s, x) and y in self.links[s][x][t]

    # Whether a tongue would have too many senses if these were there too.
    def overfull_with(self, s, told):
        return len(set(self.links[s]) | set(told)) > MOST_SENSES

    # Answers how many senses are new by it: 1 or 0.
    def add_sense(self, s, x):
        if self.has_sense(s, x):
            return 0
        self.links[s][x] = {1: {}, 2: {}, 3: {}}
        return 1

    # Pairs senses that are there; answers how many pairs are new: 1 or 0.
    def add_pair(self, s, t, x, y):
        if self.paired(s, t, x, y):
            return 0
        self.links[s][x][t][y] = True
        self.links[t][y][s][x] = True
        return 1

    def part(self, s, t, x, y):
        self.links[s][x][t].pop(y)
        self.links[t][y][s].pop(x)

    def drop(self, s, x):
        for t in TONGUES:
            for y in self.equivalents(s, t, x):
                self.part(s, t, x, y)
        self.links[s].pop(x)
