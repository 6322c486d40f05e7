"""Which letters of a converter are calm: narrowed to them, it needs no more than so many free cells ahead."""

from headgap.errors import BadNumber
from headgap.gaps import Enough, gap
from headgap.kinds import is_count
from headgap.runs import least_text
from headgap.ways import check_converter


def check_most(converter, most):
    """Raises BadConverter, BadNumber."""
    check_converter(converter)
    if not is_count(most):
        raise BadNumber(most)


def letter_sets(converter):
    """All sets of letters of a converter as texts, ascending."""
    found = [""]
    for letter in converter.letters[::-1]:
        found = ["", *[letter + part for part in found], *found[1:]]
    return found


def is_calm(converter, letters, most):
    """Whether a set of letters is calm for a number."""
    narrow = converter.narrowed(*letters)
    if least_text(narrow) is None:
        return True
    told = gap(narrow)
    return isinstance(told, Enough) and told.number <= most


def is_within(part, whole):
    """Whether a set of letters is a part of another one, and not all of it."""
    return part != whole and all([letter in whole for letter in part])


def calm_letters(converter, most):
    """The greatest calm sets of letters as tuples, ascending."""
    check_most(converter, most)
    calm = [part for part in letter_sets(converter) if is_calm(converter, part, most)]
    for part in calm:
        # A part of a calm set is calm, so if a greater set is calm, one with just one letter more is so, too.
        if not any([is_within(part, whole) for whole in calm]):
            yield tuple(part)


def blamed(converter, most):
    """The ascending tuple of the least sets of letters that are not calm."""
    check_most(converter, most)
    wild = [part for part in letter_sets(converter) if not is_calm(converter, part, most)]
    return tuple([tuple(whole) for whole in wild if not any([is_within(part, whole) for part in wild])])
