"""The promises written another way, by the fields of units alone, to be compared with what the program tells."""


def each_demand(shelf):
    return [(name, way) for name in shelf.names() for way in ("off", "on")]


def told_at_once(shelf, demand):
    """What promise 8 says, asked of each two demands one by one."""
    name, way = demand
    told = []
    for other in shelf.names():
        unit, there = shelf.unit(name), shelf.unit(other)
        if way == "on" and other in unit.needs:
            told.append((other, "on"))
        if way == "on" and (other in unit.bars or name in there.bars):
            told.append((other, "off"))
        if way == "off" and name in there.needs:
            told.append((other, "off"))
    return sorted(told)


def told_by_steps(shelf, demands):
    """All that follows, by how many steps it is away."""
    steps = {}
    front = set(demands)
    far = 0
    while front:
        steps.update({demand: far for demand in front})
        front = {other for demand in front for other in told_at_once(shelf, demand)} - set(steps)
        far += 1
    return steps


def lacking(shelf, followers):
    """Each (unit, missing) of units that follow with "on"."""
    return {(name, other) for name, way in followers if way == "on"
            for other in shelf.unit(name).needs if not shelf.has(other)}


def waits_for(shelf, name, other):
    """What promise 6 says, asked of two names."""
    one, two = shelf.unit(name), shelf.unit(other)
    return other in one.needs or other in one.after or (two.kind == "door" and two.opens == name)


def knotted(shelf, names):
    """Whether one of the names comes back to itself, by ways through the names alone."""
    for start in names:
        front, seen = [start], []
        while front:
            front = [other for other in names if other not in seen and any(waits_for(shelf, n, other) for n in front)]
            seen.extend(front)
        if start in seen:
            return True
    return False


def barred_with(shelf, one, other):
    return other in shelf.unit(one).bars or one in shelf.unit(other).bars


def stand_fits(shelf, stand):
    """What promise 10 says, each part by itself."""
    wished, up, later, back = (set(names) for names in (stand.wished, stand.up, stand.later, stand.back))
    if not wished | up | later | back <= set(shelf.names()):
        return False
    if wished & later or wished & back or later & back:
        return False
    for name in wished | later:
        if not set(shelf.unit(name).needs) <= wished:
            return False
        if any(barred_with(shelf, name, other) for other in wished | later | back):
            return False
    return not knotted(shelf, sorted(wished - up))


def wants_told(shelf, stand, name):
    """The wants of a unit as promise 13 tells them."""
    wants = list(shelf.unit(name).wants)
    for other in sorted(stand.back):
        if name in shelf.unit(other).needs and other not in wants:
            wants.append(other)
    return wants


def words_told(shelf, stand, plan, wanted):
    """All words of promise 13 that are true, in their order; "lack" alone where it is."""
    if not shelf.has(wanted):
        return ["lack"]
    come = set(told_by_steps(shelf, set(plan) | {(wanted, "on")}))
    if lacking(shelf, come):
        return ["lack"]
    on, off = ({name for name, way in come if way == turn} for turn in ("on", "off"))
    new_on, new_off = ({name for name, way in come - set(plan) if way == turn} for turn in ("on", "off"))
    words = ["clash"] if on & off else []
    words += ["early"] if new_on & set(stand.later) else []
    words += ["takes"] if new_off & {*stand.wished, *stand.later, *stand.back} else []
    words += ["knot"] if knotted(shelf, sorted((on | (set(stand.wished) - off)) - set(stand.up))) else []
    return words


def behind_told(stand, demands):
    """The four tuples of the stand behind demands, as promise 14 tells them."""
    on, off = ({name for name, way in demands if way == turn} for turn in ("on", "off"))
    sets = ((set(stand.wished) | on) - off, set(stand.up), set(stand.later) - on - off, set(stand.back) - on - off)
    return tuple(tuple(sorted(names)) for names in sets)


def wants_looked_at(shelf, stand, plan):
    """The plan with the wants taken, and those dropped, as promise 13 tells."""
    plan, dropped, looked = set(plan), [], []
    while True:
        left = [(name, at, wanted) for name, way in plan if way == "on"
                for at, wanted in enumerate(wants_told(shelf, stand, name)) if (name, wanted) not in looked]
        if not left:
            return plan, dropped
        name, at, wanted = min(left)
        looked.append((name, wanted))
        if (wanted, "on") not in plan:
            words = words_told(shelf, stand, plan, wanted)
            if words:
                dropped.append((name, wanted, words[0]))
            else:
                plan = set(told_by_steps(shelf, plan | {(wanted, "on")}))


def plan_told(shelf, stand, name):
    """The first word of the paper, and what is told behind it: the least name of a clash, a plan and those dropped."""
    core = set(told_by_steps(shelf, [(name, "on")]))
    if lacking(shelf, core):
        return "lack", None
    both = [other for other, way in core if way == "on" and (other, "off") in core]
    if both:
        return "clash", min(both)
    wished, up, later, back = behind_told(stand, core)
    if knotted(shelf, sorted(set(wished) - set(up))):
        return "knot", None
    return "plan", wants_looked_at(shelf, stand, core)


def plans_in_any_order(shelf, stand, name):
    """The demands of each plan to which wants are put one after another, in whatever order, until none can be."""
    word, told = plan_told(shelf, stand, name)
    if word != "plan":
        return set()
    front, seen, ends = [frozenset(told_by_steps(shelf, [(name, "on")]))], set(), set()
    while front:
        plan = front.pop()
        if plan in seen:
            continue
        seen.add(plan)
        wanted = {want for other, way in plan if way == "on" for want in wants_told(shelf, stand, other)}
        fitting = [want for want in wanted if (want, "on") not in plan and not words_told(shelf, stand, plan, want)]
        front.extend(frozenset(told_by_steps(shelf, plan | {(want, "on")})) for want in fitting)
        if not fitting:
            ends.add(plan)
    return ends


def is_of(thing, kinds):
    """Whether it is a tuple of as many parts as there are kinds, each just of its kind."""
    return type(thing) is tuple and [type(part) for part in thing] == list(kinds)


def are_of(thing, kinds):
    return type(thing) is tuple and all(is_of(part, kinds) for part in thing)


def is_told_chain(shelf, links, first):
    return (are_of(links, (str, str)) and len(links) > 0 and links[0] == first
            and all(shelf.has(link[0]) for link in links)
            and all(other in told_at_once(shelf, one) for one, other in zip(links, links[1:])))


def is_told_plan(shelf, stand, name, demands, dropped, order):
    """Whether it is one of the plans in any order, with right causes, true words and a right order."""
    if not are_of(demands, (str, str, int)) or not are_of(dropped, (str, str, str)) or type(order) is not tuple:
        return False
    plan = {row[:2] for row in demands}
    if len(plan) != len(demands) or plan not in plans_in_any_order(shelf, stand, name):
        return False
    if demands[0] != (name, "on", -1):
        return False
    for at, (other, way, cause) in enumerate(demands[1:], 1):
        if not 0 <= cause < at:
            return False
        asker, turn, earlier = demands[cause]
        follows = (other, way) in told_at_once(shelf, (asker, turn))
        if not follows and not (way == turn == "on" and other in wants_told(shelf, stand, asker)):
            return False
    left = [(other, want) for other, way in plan if way == "on" for want in wants_told(shelf, stand, other)
            if (want, "on") not in plan]
    if sorted(row[:2] for row in dropped) != sorted(left):
        return False
    if not all(word in words_told(shelf, stand, plan, want) for asker, want, word in dropped):
        return False
    wished, up, later, back = behind_told(stand, plan)
    if not all(type(part) is str for part in order) or sorted(order) != sorted(set(wished) - set(up)):
        return False
    return not any(waits_for(shelf, one, other) for at, one in enumerate(order) for other in order[at:])


def is_told_ring(shelf, stand, name, ring):
    core = told_by_steps(shelf, [(name, "on")])
    if lacking(shelf, core) or any((other, "off") in core and way == "on" for other, way in core):
        return False
    if type(ring) is not tuple or len(ring) < 2 or not all(type(part) is str for part in ring):
        return False
    wished, up, later, back = behind_told(stand, core)
    return (len(set(ring)) == len(ring) and set(ring) <= set(wished) - set(up)
            and all(waits_for(shelf, ring[at - 1], ring[at]) for at in range(len(ring))))


def paper_is_so(shelf, stand, paper):
    """What promises 15 and 16 say, by going through all plans."""
    if type(paper) is not tuple or len(paper) < 2 or type(paper[1]) is not str or not shelf.has(paper[1]):
        return False
    word, name, *parts = paper
    first = (name, "on")
    if word == "plan" and len(parts) == 3:
        return is_told_plan(shelf, stand, name, *parts)
    if word == "knot" and len(parts) == 1:
        return is_told_ring(shelf, stand, name, *parts)
    if word == "clash" and len(parts) == 2:
        return (all(is_told_chain(shelf, links, first) for links in parts) and parts[0][-1][0] == parts[1][-1][0]
                and (parts[0][-1][1], parts[1][-1][1]) == ("on", "off"))
    if word == "lack" and len(parts) == 2:
        links, missing = parts
        return (is_told_chain(shelf, links, first) and links[-1][1] == "on" and type(missing) is str
                and missing in shelf.unit(links[-1][0]).needs and not shelf.has(missing))
    return False


def stands_told(shelf, states, name, path=()):
    """Whether the unit stands, as promise 17 tells; one that needs itself at some remove never does."""
    if name in path or states.get(name) not in ("starting", "on"):
        return False
    needs = shelf.unit(name).needs
    return all(states.get(other) == "on" and stands_told(shelf, states, other, (*path, name)) for other in needs)


def ready_told(shelf, states, wishes):
    """What is ready, as promise 18 tells."""
    told = []
    for name in shelf.names():
        unit = shelf.unit(name)
        needing = [other for other in shelf.names() if name in shelf.unit(other).needs]
        barred = [other for other in shelf.names() if barred_with(shelf, name, other)]
        others = [other for other in shelf.names() if waits_for(shelf, name, other) and other not in unit.needs]
        firm = {other for other in shelf.names() if states[other] == "on" and stands_told(shelf, states, other)}
        if states[name] in ("starting", "on"):
            unwished = wishes[name] != "on" or not stands_told(shelf, states, name)
            if unwished and {states[other] for other in needing} <= {"off"}:
                told.append(("stop", name))
        if states[name] == "off" and wishes[name] == "on" and set(unit.needs) <= firm:
            waited = [other for other in others if other not in firm and wishes[other] == "on"]
            if not waited and {states[other] for other in needing + barred} <= {"off"}:
                told.append(("start", name))
    return sorted(told)
