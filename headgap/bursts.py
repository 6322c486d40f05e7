"""How many letters can be read into so many cells, wherever they stand."""

from headgap.errors import BadNumber
from headgap.growths import Growth
from headgap.kinds import is_count
from headgap.sizes import burst
from headgap.ways import check_converter


def surely_taken(converter, cells):
    """The greatest k such that up to k letters never write more, wherever they stand; None without a greatest one."""
    check_converter(converter)
    if not is_count(cells):
        raise BadNumber(cells)
    place = burst(converter).first_above(Growth.constant(cells))
    return None if place is None else place - 1
