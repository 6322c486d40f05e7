"""Converters made of two, read one behind the other, one beside the other, or both at once; answers repeated."""

from headgap.converters import Converter
from headgap.errors import BadConverter


def joined(one, other):
    """What one writes is read by other at once."""
    if not isinstance(one, Converter):
        raise BadConverter("one")
    return one >> other


def beside(one, other):
    """Each of both reads its own letters and stands still at those of the other one."""
    if not isinstance(one, Converter):
        raise BadConverter("one")
    return one | other


def common(one, other):
    """The texts that both take are taken, and answered as by one."""
    if not isinstance(one, Converter):
        raise BadConverter("one")
    return one & other


def repeated(converter, k):
    """Every answer and every tail is written k times."""
    if not isinstance(converter, Converter):
        raise BadConverter("converter")
    return converter * k
