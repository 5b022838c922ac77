"""Papers: plans and refusals written so that a looker can look at them."""

from unitwants.errors import Clash, Knot, Lack
from unitwants.follows import chain
from unitwants.knots import order_of
from unitwants.plans import behind, plan_on
from unitwants.stands import open_in


def clash_paper(shelf, name, clashing):
    """The paper of the clash: a chain to each of the two ways."""
    ways = [tuple(chain(shelf, [(name, "on")], (clashing, way))) for way in ("on", "off")]
    return ("clash", name, ways[0], ways[1])


def plan_paper(shelf, stand, plan):
    """The paper of the plan, with the order of the open ones behind it."""
    order = order_of(shelf, open_in(behind(stand, plan)))
    return ("plan", plan.name, plan.demands, plan.dropped, tuple(order))


def paper_on(shelf, stand, name):
    """The paper of the plan to turn the unit on, or of its refusal."""
    try:
        plan = plan_on(shelf, stand, name)
    except Lack as lack:
        return ("lack", name, tuple(lack.chain), lack.missing)
    except Clash as clash:
        return clash_paper(shelf, name, clash.name)
    except Knot as knot:
        return ("knot", name, tuple(knot.ring))
    return plan_paper(shelf, stand, plan)
