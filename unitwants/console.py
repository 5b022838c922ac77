"""A console: all of a machine's deeds and questions by texts."""

from unitwants.errors import NoRow, NoUnit, UnitError
from unitwants.machines import Machine
from unitwants.papers import paper_on
from unitwants.texts import read_shelf
from unitwants.words import is_name, number_in

LAST_TICK = 10 ** 6


def name_in(word):
    """The name that is so written."""
    if not is_name(word):
        raise NoRow("no name where one is due")
    return word


def tick_in(word):
    """The tick that is so written."""
    tick = number_in(word)
    if tick is None or tick > LAST_TICK:
        raise NoRow("no tick where one is due")
    return tick


def in_a_row(words):
    """The words with blanks between, or a stroke where there are none."""
    return " ".join(words) if len(words) > 0 else "-"


def show_plan(plan):
    """The demands of the plan, rising by names, + ahead of those with "on", - ahead of the others."""
    return " ".join([f"+{name}" if way == "on" else f"-{name}" for name, way, cause in sorted(plan.demands)])


def say_on(machine, name, tick):
    """The answer to `on NAME T`."""
    return show_plan(machine.turn_on(name, tick=tick))


def say_off(machine, name, tick):
    """The answer to `off NAME T`."""
    return show_plan(machine.turn_off(name, tick=tick))


def say_begin(machine, name, tick):
    """The answer to `begin NAME T`."""
    machine.begin(name, tick=tick)
    return "ok"


def say_good(machine, name, tick):
    """The answer to `good NAME T`."""
    machine.ended(name, tick=tick)
    return "ok"


def say_bad(machine, name, tick):
    """The answer to `bad NAME T`."""
    machine.ended(name, tick=tick, good=False)
    return "ok"


def say_died(machine, name, tick):
    """The answer to `died NAME T`."""
    machine.died(name, tick=tick)
    return "ok"


def say_knock(machine, name, tick):
    """The answer to `knock NAME T`."""
    return machine.knock(name, tick=tick)


def say_state(machine, name):
    """The answer to `state NAME`."""
    return f"{machine.state(name)} {machine.wish(name)}"


def say_why(machine, name):
    """The answer to `why NAME`."""
    return paper_on(machine.shelf(), machine.stand(), name)[0]


def say_kept(machine, name):
    """The answer to `kept NAME`."""
    return str(machine.kept(name))


def say_ready(machine):
    """The answer to `ready`."""
    return in_a_row([f"{way}:{name}" for way, name in machine.ready()])


def say_rows(machine):
    """The answer to `rows`."""
    return str(len(machine.rows()))


# By their first words: the deeds with a name and a tick, and the questions with a name and with nothing.
DEEDS = {
    "on": say_on, "off": say_off, "begin": say_begin, "good": say_good, "bad": say_bad, "died": say_died,
    "knock": say_knock}
NAMED = {"state": say_state, "why": say_why, "kept": say_kept}
BARE = {"ready": say_ready, "rows": say_rows}


class Console:
    """A machine that is told rows of words, and how many runs and answered rows there were."""

    def __init__(self, text):
        shelf = read_shelf(text)
        self.machine = Machine([shelf.unit(name) for name in shelf.names()])
        self.runs = 0
        self.said = 0

    def say(self, row):
        """The answer to one row."""
        if not isinstance(row, str):
            raise NoRow("this is no text")
        word, *rest = row.split(" ")
        if word in DEEDS and len(rest) == 2:
            deed = DEEDS[word]
            return deed(self.machine, name_in(rest[0]), tick_in(rest[1]))
        if word == "wake" and len(rest) == 1:
            return in_a_row(self.machine.wake(tick=tick_in(rest[0])))
        if word in NAMED and len(rest) == 1:
            named = NAMED[word]
            return named(self.machine, name_in(rest[0]))
        if word in BARE and len(rest) == 0:
            bare = BARE[word]
            return bare(self.machine)
        raise NoRow("no such row")

    def run(self, rows, *, stop=True):
        """The answers to the rows, one after another; where stop is False, a refused one is answered `no`."""
        answers = []
        answered = 0
        try:
            for row in rows:
                try:
                    answers.append(self.say(row))
                    answered += 1
                except (UnitError, NoUnit):
                    if stop:
                        raise
                    answers.append("no")
        finally:
            self.runs += 1
            self.said += answered
        return answers
