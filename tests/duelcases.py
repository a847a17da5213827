"""Small duels for tests, and plain searches in them that follow the words of the document."""

from functools import lru_cache
from random import Random

from stampsheets.duels import Duel
from stampsheets.stocks import Stock
from tests.plain import fits, over, press_row, random_layer, random_stamp, reachable, rows_up_to

SIZE = 2


class PlainDuel:
    """A duel in which everything is searched for in all rows."""

    def __init__(self, mine, foes, wishes, most):
        self.mine, self.foes, self.wishes, self.most = mine, foes, wishes, most

    def duel(self):
        size = len(self.wishes[0])
        return Duel(Stock(size, self.mine), Stock(size, self.foes), self.wishes, self.most)

    def good(self, sheet):
        return any(fits(sheet, wish) for wish in self.wishes)

    def deeds(self, sheet):
        return [("", sheet)] + [(name, over(sheet, stamp)) for name, stamp in self.foes]

    def answers(self, sheet):
        """Return the first row of each sheet, found among all rows in order."""
        if self.most is None:
            # No shortest row passes the same sheet twice.
            longest = len(reachable(self.mine, [sheet])) - 1
        else:
            longest = self.most
        first = {}
        for row in rows_up_to([name for name, stamp in self.mine], longest):
            first.setdefault(press_row(self.mine, sheet, row), row)
        return tuple((row, after) for after, row in first.items())

    def sheets(self, start):
        both = [(k, stamp) for k, (name, stamp) in enumerate(self.mine + self.foes)]
        return tuple(sorted(reachable(both, [start])))

    def cached(self):
        for name in ("good", "answers", "lost", "won"):
            setattr(self, name, lru_cache(None)(getattr(self, name)))
        return self

    def haven(self, sheets):
        return all(
            self.good(sheet) and all(
                any(after in sheets for row, after in self.answers(made)) for name, made in self.deeds(sheet)
            ) for sheet in sheets
        )

    def lost(self, sheet, rank):
        """Say whether the sheet has a rank of at most so much."""
        if rank < 0:
            return False
        return not self.good(sheet) or self.lost(sheet, rank - 1) or self.blow(sheet, rank) is not None

    def blow(self, sheet, rank):
        for name, made in self.deeds(sheet):
            if all(self.lost(after, rank - 1) for row, after in self.answers(made)):
                return name
        return None

    def won(self, sheet, turns):
        """Say whether the sheet is won in at most so many turns."""
        if turns < 0:
            return False
        if turns == 0 or self.good(sheet):
            return self.good(sheet)
        return self.won(sheet, turns - 1) or self.winning_row(sheet, turns) is not None

    def winning_row(self, sheet, turns):
        for row, after in self.answers(sheet):
            if self.good(after) or all(self.won(made, turns - 1) for name, made in self.deeds(after)):
                return row
        return None

    def trap(self, sheets):
        return not any(self.good(sheet) for sheet in sheets) and all(
            not self.good(after) and any(made in sheets for name, made in self.deeds(after))
            for sheet in sheets for row, after in self.answers(sheet)
        )


def single_stamps(random, size, names, signs):
    """Return stamps that cover one cell each."""
    cells = [random.randrange(size) for _ in names]
    return tuple(
        (name, "-" * cell + random.choice(signs) + "-" * (size - cell - 1)) for name, cell in zip(names, cells)
    )


def random_duel(seed, size=SIZE):
    """Return a plain duel and a start that depend on the seed alone."""
    random = Random(seed * 19 + 4)
    many = random.choice([1, 2, 3, 4])
    most = random.choice([0, 1, 1, 1, 2, 3, None])
    if random.random() < 0.5:
        # Stamps that cover little make slow duels.
        mine = single_stamps(random, size, "xyz"[:random.choice([0, 2, 3])], "aab")
        foes = single_stamps(random, size, "xpq"[:random.choice([1, 2, 3])], "c")
        wishes = tuple(random_stamp(random, size, random.choice(["--a", "aa-", "-ab"])) for _ in range(many))
        start = random_layer(random, size, random.choice(["aaab", "abc."]))
        return PlainDuel(mine, foes, wishes, random.choice([0, 0, 1, most])).cached(), start
    mine = tuple((name, random_stamp(random, size, "--ab")) for name in "xyz"[:random.choice([0, 1, 2, 2, 3])])
    foes = tuple((name, random_stamp(random, size, "--abc")) for name in "xpq"[:random.choice([0, 1, 1, 2, 3])])
    wishes = tuple(random_layer(random, size, "--ab") for _ in range(many))
    return PlainDuel(mine, foes, wishes, most).cached(), random_layer(random, size, "abc.")
