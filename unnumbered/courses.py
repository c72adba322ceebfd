"""Courses: runs that go on entry by entry."""

from unnumbered.executing import is_true, perform
from unnumbered.registers import first_registers
from unnumbered.values import is_number


class Course:
    """A run so far.

    place is the one of the next entry; memories has for each step what it would use next,
    nothing where it uses nothing.
    """

    def __init__(self, program, place, registers, memories, is_left):
        self.program = program
        self.place = place
        self.registers = registers
        self.memories = memories
        self.is_left = is_left

    def copied(self):
        """Another course that is as far as this one."""
        return Course(
            self.program, self.place, self.registers.copied(), list(self.memories), self.is_left
        )

    def pass_over(self):
        """Leaves out the next place."""
        self.place += 1

    def advance(self, entry):
        """Feeds the next entry; whether it came to the statements."""
        place = self.place
        self.place += 1
        if self.is_left:
            return False
        thing = entry
        for at, step in enumerate(self.program.steps):
            if step == "drop" and not is_number(thing):
                return False
            thing = self._behind_step(step, at, thing)
        self.registers.x = thing
        self._execute(place)
        self.registers.before = thing
        return True

    def held_values(self):
        """The held values, a list."""
        keeps = [self.registers.keeps[name] for name in self.program.keeps]
        memories = [
            self.memories[at] for at, step in enumerate(self.program.steps) if step in ("hold", "shift")
        ]
        before = [self.registers.before] if self.program.has_before else []
        return [*keeps, *memories, *before]

    def _behind_step(self, step, at, thing):
        if step == "shift":
            last = self.memories[at]
            self.memories[at] = thing
            return last
        if is_number(thing):
            if step == "hold":
                self.memories[at] = thing
            return thing
        if step == "fill":
            return 0
        return thing if self.memories[at] is None else self.memories[at]

    def _execute(self, place):
        for statement in self.program.read_statements:
            if statement.test is None or is_true(statement.test, self.registers):
                word = statement.action[0]
                if word == "leave":
                    self.is_left = True
                if word in ("skip", "leave"):
                    return
                perform(statement.action, self.registers, place)


def first_course(program, place):
    """A run that no entry was fed to; its first entry will be at this place."""
    memories = [None for step in program.steps]
    return Course(program, place, first_registers(program), memories, False)
