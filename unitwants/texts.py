"""Texts of units and shelves: written, and read as the same."""

from unitwants.errors import NoText
from unitwants.rules import Rule
from unitwants.shelves import MOST, Shelf
from unitwants.units import Unit
from unitwants.words import is_name, number_in

KINDS = ("work", "goal", "door")
# The lines behind a unit's first one begin with these, in this order.
LINE_WORDS = ("needs", "wants", "bars", "after", "opens", "rule")
MOST_NAMES = 8
# The least and the most of first, times, top, burst and span.
RULE_BOUNDS = ((1, 1000), (1, 10), (1, 10 ** 6), (0, 20), (0, 10 ** 6))


def show_unit(unit):
    """The unit in lines."""
    lines = [f"unit {unit.name} {unit.kind}"]
    lists = (("needs", unit.needs), ("wants", unit.wants), ("bars", unit.bars), ("after", unit.after))
    for word, names in lists:
        if len(names) > 0:
            lines.append(" ".join([word, *names]))
    if unit.opens is not None:
        lines.append(f"opens {unit.opens}")
    if unit.rule is not None:
        lines.append(f"rule {unit.rule}")
    return "\n".join(lines)


def show_shelf(shelf):
    """The units of the shelf by their names, an empty line between two."""
    return "\n\n".join([show_unit(shelf.unit(name)) for name in shelf.names()])


def read_head(line):
    """The name and the kind that a unit's first line tells."""
    words = line.split(" ")
    if len(words) != 3 or words[0] != "unit" or not is_name(words[1]) or words[2] not in KINDS:
        raise NoText("no first line of a unit")
    return words[1], words[2]


def read_lines(lines):
    """By each word that may begin a line, what stands behind it there; nothing where there is no such line."""
    behind = {word: [] for word in LINE_WORDS}
    left = list(LINE_WORDS)
    for line in lines:
        word, *rest = line.split(" ")
        if word not in left or len(rest) == 0:
            raise NoText("no line of a unit, or not in its place")
        # What stands ahead of this word may not come behind it any more.
        left = left[left.index(word) + 1:]
        behind[word] = rest
    return behind


def read_names(words, own):
    """The names of one of the lists of the unit that has the own name."""
    if len(words) > MOST_NAMES:
        raise NoText("too many names")
    for at, word in enumerate(words):
        if not is_name(word) or word == own or word in words[:at]:
            raise NoText("no name, or one that may not stand here")
    return tuple(words)


def read_opens(words, own, kind):
    """The name that the unit opens: one of each door, None of others."""
    if len(words) != (1 if kind == "door" else 0):
        raise NoText("a door opens just one, and nothing else opens any")
    names = read_names(words, own)
    return names[0] if kind == "door" else None


def read_rule(words):
    """The rule of these five numbers; None where nothing is told."""
    if len(words) == 0:
        return None
    if len(words) != len(RULE_BOUNDS):
        raise NoText("a rule has five numbers")
    numbers = [number_in(word) for word in words]
    for number, (least, most) in zip(numbers, RULE_BOUNDS):
        if number is None or not least <= number <= most:
            raise NoText("no number, or one out of its bounds")
    first, times, top, burst, span = numbers
    return Rule(first=first, times=times, top=top, burst=burst, span=span)


def read_unit(text):
    """The unit that is just so written."""
    if not isinstance(text, str):
        raise NoText("this is no text")
    head, *lines = text.split("\n")
    name, kind = read_head(head)
    behind = read_lines(lines)
    return Unit(
        name, kind=kind, needs=read_names(behind["needs"], name), wants=read_names(behind["wants"], name),
        bars=read_names(behind["bars"], name), after=read_names(behind["after"], name),
        opens=read_opens(behind["opens"], name, kind), rule=read_rule(behind["rule"]))


def read_shelf(text):
    """The shelf that is just so written."""
    if not isinstance(text, str):
        raise NoText("this is no text")
    if text == "":
        return Shelf()
    units = [read_unit(part) for part in text.split("\n\n")]
    names = [unit.name for unit in units]
    if len(names) > MOST or names != sorted(set(names)):
        raise NoText("too many units, or not each name once and rising")
    return Shelf(units)
