"""The judge of tables of standings; it searches for nothing."""

from waypairs.errors import BadPaper
from waypairs.oneway import Lens
from waypairs.standings import is_standing, steps, told_by
from waypairs.tables import wrong_entry


def _closed_fault(lens, table):
    """None if a list of any values is a closed table, otherwise where it is wrong first."""
    wrong = wrong_entry(table, lambda value: is_standing(lens, value))
    if wrong is not None:
        return wrong
    costs = {standing: cost for standing, cost in table}
    if costs.get(lens.start) != 0:
        return -1
    for at, (standing, cost) in enumerate(table):
        for other, more in steps(lens, standing):
            if other not in costs or costs[other] > cost + more:
                return at
    return None


def _is_told(lens, standing, manners):
    """Whether a set of manners tells by a standing."""
    return any([least.within(manners) for least in told_by(lens, standing)])


def closed_fault(row, table):
    """None if a list of any values is a closed table, otherwise the index that is wrong first; -1 for the start."""
    return _closed_fault(Lens(row), table)


def quiet_fault(row, table, manners):
    """None if a list of any values is a closed table that no manners tell by, otherwise the index of what is wrong."""
    lens = Lens(row)
    wrong = _closed_fault(lens, table)
    if wrong is not None:
        return wrong
    for at, (standing, _) in enumerate(table):
        if _is_told(lens, standing, manners):
            return at
    return None


def cost_bound(row, table, manners):
    """The least cost in a closed table of a standing by which a set of manners tells, or None."""
    lens = Lens(row)
    if _closed_fault(lens, table) is not None:
        raise BadPaper()
    return min([cost for standing, cost in table if _is_told(lens, standing, manners)], default=None)
