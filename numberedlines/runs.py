"""Runs of programs, with deeds that can be taken back."""

from numberedlines.changes import changed, changed_state
from numberedlines.errors import NoBack, NoProgram, NoWorth
from numberedlines.lines import has_line
from numberedlines.renumber import led_state, renumbered
from numberedlines.states import first_state, part_of
from numberedlines.texts import show_program
from numberedlines.walk import gone_on, walk
from numberedlines.words import is_program, is_worth


class Run:
    """A program, its state and its inputs."""

    def __init__(self, program):
        if not is_program(program):
            raise NoProgram()
        # A tuple (program, state, inputs) that is never changed, only another one put in its place.
        self.kept = (program, first_state(program), ())
        # What was kept ahead of each deed.
        self.deeds = []
        self.busy = False

    def doing(self, deed):
        """Does a deed: a function that is handed what is kept, and tells (kept, told) behind it."""
        self.busy = True
        try:
            kept, told = deed(*self.kept)
        finally:
            self.busy = False
        self.deeds.append(self.kept)
        self.kept = kept
        return told

    def step(self):
        """One step: how many were done."""
        def deed(program, state, inputs):
            behind, steps = walk(program, inputs, state=state, most=1)
            return ((program, behind, inputs), steps)

        return self.doing(deed)

    def go(self, *, most=1000):
        """Goes on, and walks: how many steps were done."""
        def deed(program, state, inputs):
            behind, steps = walk(program, inputs, state=gone_on(program, state, inputs), most=most)
            return ((program, behind, inputs), steps)

        return self.doing(deed)

    def give(self, worth):
        """One input more."""
        def deed(program, state, inputs):
            if not is_worth(worth):
                raise NoWorth()
            return ((program, state, (*inputs, worth)), None)

        self.doing(deed)

    def begin(self, *, first=None):
        """Begins anew, at the first line or at a told one; the inputs are asked anew."""
        def deed(program, state, inputs):
            return ((program, first_state(program, first=first), inputs), None)

        self.doing(deed)

    def put(self, line):
        """Puts a line in, or in the place of the one of its number."""
        self.change(("put", line))

    def strike(self, number):
        """Takes a line out."""
        self.change(("strike", number))

    def change(self, told):
        """Changes the program amid the run."""
        def deed(program, state, inputs):
            return ((changed(program, told), changed_state(program, state, told), inputs), None)

        self.doing(deed)

    def renumber(self, *, first=10, step=10):
        """Numbers the lines anew, and leads the state."""
        def deed(program, state, inputs):
            led, pairs = renumbered(program, first=first, step=step)
            return ((led, led_state(state, pairs), inputs), None)

        self.doing(deed)

    def back(self):
        """Takes the last deed back."""
        if len(self.deeds) == 0:
            raise NoBack()
        self.kept = self.deeds.pop()

    def has(self, number):
        """Whether there is a line of that number; told of anything."""
        return has_line(self.program(), number)

    def program(self):
        return self.kept[0]

    def state(self):
        return self.kept[1]

    def inputs(self):
        return list(self.kept[2])

    def said(self):
        return list(part_of(self.state(), "said"))

    def boxes(self):
        return dict(part_of(self.state(), "boxes"))

    def pile(self):
        return part_of(self.state(), "pile")

    def at(self):
        return part_of(self.state(), "at")

    def twin(self):
        """Another run that stands as this one does, with its deeds."""
        other = Run(self.program())
        other.kept = self.kept
        other.deeds = list(self.deeds)
        return other

    def __len__(self):
        return len(self.program())

    def __eq__(self, other):
        return isinstance(other, Run) and self.kept == other.kept

    def __str__(self):
        return str(show_program(self.program()))

    def __repr__(self):
        return f"Run({len(self.program())} lines, {part_of(self.state(), 'stand')} at {self.at()})"
