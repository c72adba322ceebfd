"""Registers: what a run holds under the names of a program."""


class Registers:
    """Dicts from the names of registers to what they hold, and what x and before are.

    parts is a dict from each sum to its parts, a dict from numbers to how often they were added.
    """

    def __init__(self, keeps, flags, sums, counts, places, parts):
        self.keeps = keeps
        self.flags = flags
        self.sums = sums
        self.counts = counts
        self.places = places
        self.parts = parts
        self.x = None
        self.before = None

    def copied(self):
        """Other registers that hold the same."""
        twin = Registers(
            dict(self.keeps),
            dict(self.flags),
            dict(self.sums),
            dict(self.counts),
            dict(self.places),
            {name: dict(parts) for name, parts in self.parts.items()},
        )
        twin.before = self.before
        return twin


def first_registers(program):
    """What the registers of a program hold ahead of the first entry."""
    return Registers(
        dict(zip(program.keeps, program.starts)),
        {name: False for name in program.flags},
        {name: 0 for name in program.sums},
        {name: 0 for name in program.counts},
        {name: None for name in program.places},
        {name: {} for name in program.sums},
    )


def add_part(parts, number, times):
    """Changes the parts of a sum to which a number is added so many times."""
    many = parts.get(number, 0) + times
    if number == 0:
        return
    if many == 0:
        del parts[number]
    else:
        parts[number] = many
