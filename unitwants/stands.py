"""Stands: which units are wished, up, to come later and to come back."""

from unitwants.knots import knot_in


class Stand:
    """Four tuples of names, each rising; never changed once made."""

    def __init__(self, *, wished=(), up=(), later=(), back=()):
        self.wished = wished
        self.up = up
        self.later = later
        self.back = back

    def __eq__(self, other):
        return (isinstance(other, Stand) and self.wished == other.wished and self.up == other.up
                and self.later == other.later and self.back == other.back)


def open_in(stand):
    """Those that are wished and not up, rising."""
    return [name for name in stand.wished if name not in stand.up]


def all_there(shelf, stand):
    """Whether all names of the stand are on the shelf."""
    return all([shelf.has(name) for name in stand.wished + stand.up + stand.later + stand.back])


def needs_wished(shelf, stand):
    """Whether each that a wished or a later one needs is wished."""
    needed = [other for name in stand.wished + stand.later for other in shelf.unit(name).needs]
    return all([other in stand.wished for other in needed])


def none_barred(shelf, stand):
    """Whether no wished or later one is barred with one that is wished, later or back."""
    barred = [other for name in stand.wished + stand.later for other in shelf.barred(name)]
    return not any([other in stand.wished + stand.later + stand.back for other in barred])


def fits(shelf, stand):
    """Whether the stand fits the shelf."""
    # The shelf can only be asked about names that are on it, so this comes first.
    if not all_there(shelf, stand):
        return False
    held = stand.wished + stand.later + stand.back
    return (len(held) == len(set(held)) and needs_wished(shelf, stand) and none_barred(shelf, stand)
            and knot_in(shelf, open_in(stand)) is None)
