"""The looker: whether any thing is a paper that is so, whoever wrote it."""

from unitwants.errors import Clash, Lack
from unitwants.follows import at_once, followed
from unitwants.plans import core_on, open_behind, without_causes
from unitwants.wants import wants_of, words_of


def is_whole(thing):
    """Whether it is a whole number, which a truth is not."""
    return isinstance(thing, int) and not isinstance(thing, bool)


def is_chain(shelf, links, first):
    """Whether it is a tuple of demands that begins with the first one, each following at once from the one ahead."""
    if not isinstance(links, tuple) or links[:1] != (first,):
        return False
    # A link is only asked for what follows behind it when it was found to follow itself.
    for at in range(1, len(links)):
        if links[at] not in at_once(shelf, links[at - 1]):
            return False
    return True


def lack_holds(shelf, name, links, missing):
    """Whether the chain leads to one that needs what is missing."""
    if not is_chain(shelf, links, (name, "on")):
        return False
    last, way = links[-1]
    return way == "on" and missing in shelf.unit(last).needs and not shelf.has(missing)


def clash_holds(shelf, name, one, other):
    """Whether the chains lead to a name with "on" and to the same name with "off"."""
    first = (name, "on")
    if not is_chain(shelf, one, first) or not is_chain(shelf, other, first):
        return False
    last, way = one[-1]
    return way == "on" and other[-1] == (last, "off")


def is_ring(shelf, names, ring):
    """Whether it is a tuple of unlike ones of the names, each waiting for the next and the last for the first."""
    if not isinstance(ring, tuple) or len(ring) == 0 or not all([name in names for name in ring]):
        return False
    if len(ring) != len(set(ring)):
        return False
    return all([other in shelf.waited(name) for name, other in zip(ring, ring[1:] + ring[:1])])


def knot_holds(shelf, stand, name, ring):
    """Whether the ring is one of the open ones behind the core, which has neither lack nor clash."""
    try:
        core = core_on(shelf, name)
    except (Lack, Clash):
        return False
    return is_ring(shelf, open_behind(stand, name, core), ring)


def is_row(shelf, row):
    """Whether it has the form of a demand with its cause, of a unit on the shelf."""
    return (isinstance(row, tuple) and len(row) == 3 and shelf.has(row[0]) and row[1] in ("on", "off")
            and is_whole(row[2]))


def are_rows(shelf, name, demands):
    """Whether it is a tuple of demands with their causes, that of the name first, no name twice."""
    if not isinstance(demands, tuple) or not all([is_row(shelf, row) for row in demands]):
        return False
    names = [other for other, way, cause in demands]
    return demands[:1] == ((name, "on", -1),) and len(names) == len(set(names))


def is_caused(shelf, stand, demands, at):
    """Whether the demand at this place is there by an earlier one: it follows at once, or is a want."""
    name, way, cause = demands[at]
    if not 0 <= cause < at:
        return False
    asker, turn, earlier = demands[cause]
    wanted = turn == "on" and way == "on" and name in wants_of(shelf, stand, asker)
    return wanted or (name, way) in at_once(shelf, (asker, turn))


def is_whole_plan(shelf, had):
    """Whether all that follows at once is there, and no "on" of one that needs what isn't on the shelf."""
    following = [other for demand in had for other in at_once(shelf, demand)]
    needed = [other for name, way in had if way == "on" for other in shelf.unit(name).needs]
    return all([other in had for other in following]) and all([shelf.has(other) for other in needed])


def is_harmless(shelf, stand, name, had):
    """Whether the core alone has "on" of one that is later, or "off" of one that is wished, later or back."""
    core = followed(shelf, [(name, "on")])
    spared = [(other, "on") for other in stand.later]
    spared = spared + [(other, "off") for other in stand.wished + stand.later + stand.back]
    return not any([demand in spared and demand not in core for demand in had])


def is_triple(row):
    """Whether it is a tuple of three texts."""
    return isinstance(row, tuple) and len(row) == 3 and all([isinstance(part, str) for part in row])


def is_dropped(shelf, stand, had, asker, wanted, word):
    """Whether the asker wants what the plan hasn't, and the word is true of it."""
    return ((asker, "on") in had and wanted in wants_of(shelf, stand, asker) and (wanted, "on") not in had
            and word in words_of(shelf, stand, had, wanted))


def are_dropped(shelf, stand, had, dropped):
    """Whether it is a tuple of dropped wants with true words, each want once, and just those that the plan hasn't."""
    if not isinstance(dropped, tuple) or not all([is_triple(row) for row in dropped]):
        return False
    told = [(asker, wanted) for asker, wanted, word in dropped]
    askers = [name for name, way in had if way == "on"]
    left = [(asker, wanted) for asker in askers for wanted in wants_of(shelf, stand, asker)
            if (wanted, "on") not in had]
    if len(told) != len(set(told)) or not all([want in told for want in left]):
        return False
    return all([is_dropped(shelf, stand, had, asker, wanted, word) for asker, wanted, word in dropped])


def is_order(shelf, names, order):
    """Whether it is a tuple of all the names, each once and behind those for which it waits."""
    if not isinstance(order, tuple) or len(order) != len(names) or not all([name in order for name in names]):
        return False
    waiting = [(at, other) for at, name in enumerate(order) for other in shelf.waited(name)]
    return not any([other in order[at:] for at, other in waiting])


def plan_holds(shelf, stand, name, demands, dropped, order):
    """Whether these are the parts of a plan to which wants were put one after another."""
    if not are_rows(shelf, name, demands):
        return False
    had = without_causes(demands)
    return (all([is_caused(shelf, stand, demands, at) for at in range(1, len(demands))])
            and is_whole_plan(shelf, had) and is_harmless(shelf, stand, name, had)
            and are_dropped(shelf, stand, had, dropped)
            and is_order(shelf, open_behind(stand, name, demands), order))


def holds(shelf, stand, paper):
    """Whether any thing is a paper of this shelf and this stand that is so."""
    if not isinstance(paper, tuple) or len(paper) < 3 or not shelf.has(paper[1]):
        return False
    word, name, *parts = paper
    if word == "plan" and len(parts) == 3:
        return plan_holds(shelf, stand, name, parts[0], parts[1], parts[2])
    if word == "lack" and len(parts) == 2:
        return lack_holds(shelf, name, parts[0], parts[1])
    if word == "clash" and len(parts) == 2:
        return clash_holds(shelf, name, parts[0], parts[1])
    return word == "knot" and len(parts) == 1 and knot_holds(shelf, stand, name, parts[0])
