"""A live system kept unknown by unknown, to compare live systems with."""

from itertools import groupby

from tests.reference import Definition, coupled_pairs, some_zone


class Kept:
    """For each inner unknown the offsets and touches of its zone."""

    def __init__(self, borders, rows):
        self.borders = borders
        self.rows = rows

    def zones(self):
        """The zones that the property tells: neighbours that are alike put together."""
        return [(len(list(group)), list(row[0]), list(row[1])) for row, group in groupby(self.rows)]

    def definition(self):
        return Definition(self.borders, self.zones())

    def entries(self):
        return sum(self.definition().sizes)

    def after(self, operation):
        """What an operation without an error makes of it."""
        word, *items = operation
        if word == "add":
            return Kept(self.borders, self.rows + rows_of(items))
        if word == "cut":
            return Kept(self.borders, self.rows[items[0]:items[1]])
        last = len(self.rows) - 1
        offsets = [[] for _ in self.rows]
        for low, high in coupled_pairs(0, self.zones()):
            offsets[last - high].append(high - low)
        return Kept(0, [(tuple(sorted(row)), ()) for row in offsets])


def rows_of(zones):
    return [(tuple(offsets), tuple(touches)) for count, offsets, touches in zones for _ in range(count)]


def kept_of(system):
    return Kept(system.borders, rows_of(system.zones))


def some_operation(random, kept, most):
    """An operation that raises no error at a kept system, which stays of few unknowns by it."""
    length = len(kept.rows)
    kinds = ["add"] * 3 + ["cut"] * (2 if length > 2 else 0) + ["turn"] * (0 if kept.borders else 2)
    if length > most:
        kinds = ["cut"]
    kind = random.choice(kinds)
    if kind == "add":
        return ("add", some_zone(random, kept.borders, random.randint(1, max(1, most // 3))))
    if kind == "cut":
        begin = random.randrange(max(1, length // 3))
        return ("cut", begin, random.randint(max(begin, length // 2) + 1, max(begin, length // 2, length - 1) + 1))
    return ("turn",)


def perform(live, operation):
    """Call what an operation tells."""
    word, *items = operation
    return {"add": live.add, "cut": live.cut, "turn": live.turn}[word](*items)
