"""Ends: how a machine stands by its rows alone, and how every run of it ends."""

STATES = {"starting": "starting", "up": "on", "stopping": "stopping", "down": "off"}
WISHES = ("on", "off", "later", "back")


def kept_behind(kept, word, number):
    """How many knocks a door keeps behind a row, by how many it kept ahead."""
    if word == "kept":
        return kept + number
    if word in ("handed", "lost"):
        return kept - number
    return kept


def told_by(rows):
    """Of each name in the rows of a machine (name, state, wish, kept), sorted."""
    told = {}
    for tick, word, name, number in rows:
        state, wish, kept = told.get(name, ("off", "off", 0))
        told[name] = (STATES.get(word, state), word if word in WISHES else wish, kept_behind(kept, word, number))
    return sorted([(name, state, wish, kept) for name, (state, wish, kept) in told.items()])


def run_on(machine, bad):
    """Begins what is ready, or else ends what was begun; whether there was either."""
    tick = machine.last_tick()
    ready = machine.ready()
    if len(ready) > 0:
        way, name = ready[0]
        machine.begin(name, tick=tick)
        return True
    for name in machine.shelf().names():
        state = machine.state(name)
        if state in ("starting", "stopping"):
            machine.ended(name, tick=tick, good=state == "stopping" or name not in bad)
            return True
    return False


def foretold(machine, *, bad=()):
    """Of each unit (name, state, wish), sorted, with which every run ends, the starts of the bad ones ending badly."""
    runner = machine.twin()
    while run_on(runner, bad):
        pass
    return [(name, runner.state(name), runner.wish(name)) for name in runner.shelf().names()]
