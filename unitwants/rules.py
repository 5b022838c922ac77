"""Rules: how long a fallen unit waits, and when it is given up."""


class Rule:
    """The five numbers by which falls are waited for; never changed once made."""

    def __init__(self, *, first=1, times=2, top=64, burst=5, span=100):
        self.first = first
        self.times = times
        self.top = top
        self.burst = burst
        self.span = span

    def __eq__(self, other):
        return (isinstance(other, Rule) and self.first == other.first and self.times == other.times
                and self.top == other.top and self.burst == other.burst and self.span == other.span)

    def __str__(self):
        return f"{self.first} {self.times} {self.top} {self.burst} {self.span}"

    def __repr__(self):
        return f"Rule({self.first}, {self.times}, {self.top}, {self.burst}, {self.span})"


def wait_behind(rule, ahead):
    """The wait of a fall with so many of its row ahead of it, or None: given up."""
    if ahead == rule.burst:
        return None
    wait = rule.first
    for step in range(ahead):
        wait *= rule.times
    return min(wait, rule.top)


def waits(rule, falls):
    """The wait of each fall, in a new list; None where it is given up."""
    told = []
    ahead = 0
    for at, tick in enumerate(falls):
        if at > 0 and tick - falls[at - 1] > rule.span:
            ahead = 0
        wait = wait_behind(rule, ahead)
        told.append(wait)
        # A fall that is given up ends its row, however soon the next one comes.
        ahead = 0 if wait is None else ahead + 1
    return told
