"""A fixed drawing: the same numbers in every run and under every Python."""


class Drawing:
    def __init__(self, seed):
        self.state = seed * 2 + 1

    def below(self, many):
        """A number from 0 on, below many."""
        self.state = (self.state * 6364136223846793005 + 1442695040888963407) & (2 ** 64 - 1)
        return (self.state >> 33) % many

    def one_of(self, things):
        return things[self.below(len(things))]

    def some_of(self, things):
        """Some of them, in their order; perhaps none, perhaps all."""
        return [thing for thing in things if self.below(2)]
