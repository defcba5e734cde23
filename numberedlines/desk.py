"""A desk, which keeps runs by names and is told lines."""

from numberedlines.errors import NoLine, NoRun, NoText
from numberedlines.reader import read_line, read_worth
from numberedlines.runs import Run
from numberedlines.states import frame_number, part_of
from numberedlines.texts import show_line, show_worth, show_worths
from numberedlines.tokens import FIGURES, number_of
from numberedlines.words import GREATEST_LINE, is_name

# By its first word, what may stand behind it: tuples of the kinds of the words.
WORDS_BEHIND = {
    "new": (("name",),),
    "use": (("name",),),
    "drop": (("name",),),
    "names": ((),),
    "run": ((), ("line's number",)),
    "step": ((),),
    "on": ((),),
    "give": (("worth",),),
    "back": ((),),
    "list": ((),),
    "said": ((),),
    "box": (("name",),),
    "pile": ((),),
    "renumber": (("number", "number"),),
}


def name_of(word):
    if not is_name(word):
        raise NoText(None)
    return word


def from_one(word):
    """The number from 1 on that a word writes by its figures."""
    if word == "" or word[0] == "0" or not are_figures(word):
        raise NoText(None)
    return number_of(word)


def are_figures(text):
    return all([sign in FIGURES for sign in text])


def number_of_line(word):
    number = from_one(word)
    if number > GREATEST_LINE:
        raise NoText(None)
    return number


def read_as(kind, text):
    """What is written there, which must be of that kind."""
    if kind == "name":
        return name_of(text)
    if kind == "number":
        return from_one(text)
    if kind == "line's number":
        return number_of_line(text)
    try:
        return read_line(text) if kind == "line" else read_worth(text)
    except NoText:
        # A desk is told one line, of which no part has a number.
        raise NoText(None) from None


def words_of(line):
    """The words of a line that is none of a program."""
    # A worth is all that is left of its line: a text may have blanks.
    return line.split(" ", 1) if line.startswith("give ") else line.split(" ")


def kinds_behind(words):
    """The kinds of the words behind the first one."""
    for kinds in WORDS_BEHIND.get(words[0], ()):
        if len(kinds) == len(words) - 1:
            return kinds
    raise NoLine(None)


def or_dash(text):
    return "-" if text == "" else text


def stand_of(run, steps):
    return f"{part_of(run.state(), 'stand')} at {run.at()} {steps}"


def run_anew(run, first=None):
    run.begin(first=first)
    return stand_of(run, run.go())


def run_step(run):
    return stand_of(run, run.step())


def run_on(run):
    return stand_of(run, run.go())


def give(run, worth):
    run.give(worth)
    return "ok"


def take_back(run):
    run.back()
    return "ok"


def renumber(run, first, by):
    run.renumber(first=first, step=by)
    return "ok"


def listed(run):
    return or_dash("|".join([show_line(line) for line in run.program()]))


def last_said(run):
    said = run.said()
    return "-" if len(said) == 0 else or_dash(show_worths(said[-1]))


def box_worth(run, name):
    boxes = run.boxes()
    return show_worth(boxes[name]) if name in boxes else "-"


def frames(run):
    return or_dash(", ".join([frame_text(frame) for frame in reversed(run.pile())]))


def frame_text(frame):
    number = frame_number(frame)
    return f"call {number}" if frame[0] == "call" else f"loop {frame[1]} {number}"


# What is done with the run that is used.
RUN_ACTIONS = {
    "run": run_anew,
    "step": run_step,
    "on": run_on,
    "give": give,
    "back": take_back,
    "list": listed,
    "said": last_said,
    "box": box_worth,
    "pile": frames,
    "renumber": renumber,
}


def new_run(desk, name):
    desk.runs[name] = Run(())
    desk.used = name
    return "ok"


def use_run(desk, name):
    refuse_unknown(desk, name)
    desk.used = name
    return "ok"


def drop_run(desk, name):
    refuse_unknown(desk, name)
    del desk.runs[name]
    if desk.used == name:
        desk.used = None
    return "ok"


def refuse_unknown(desk, name):
    """Raises NoRun where the desk has no run of the name."""
    if name not in desk.runs:
        raise NoRun(name)


def all_names(desk):
    return or_dash(" ".join(sorted(desk.runs)))


# What is done with the desk itself.
DESK_ACTIONS = {
    "new": new_run,
    "use": use_run,
    "drop": drop_run,
    "names": all_names,
}


class Desk:
    """Runs by their names, one of which is used, or none."""

    def __init__(self):
        self.runs = {}
        self.used = None

    def say(self, line):
        """The answer to a line."""
        if not isinstance(line, str):
            raise NoLine(None)
        if line != "" and line[0] in FIGURES:
            return self.edit(line)
        words = words_of(line)
        given = [read_as(kind, word) for kind, word in zip(kinds_behind(words), words[1:])]
        if words[0] in DESK_ACTIONS:
            desk_action = DESK_ACTIONS[words[0]]
            return desk_action(self, *given)
        run = self.run_used()
        run_action = RUN_ACTIONS[words[0]]
        return run_action(run, *given)

    def edit(self, line):
        """Puts a line of a program, or strikes it where there are figures alone."""
        if are_figures(line):
            number = read_as("line's number", line)
            self.run_used().strike(number)
        else:
            new = read_as("line", line)
            self.run_used().put(new)
        return "ok"

    def run_used(self):
        if self.used is None:
            raise NoRun(None)
        return self.runs[self.used]
