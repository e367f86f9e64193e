"""Charges, and widths that may be endless."""

from enoughcharge.errors import NotUsable
from enoughcharge.kinds import is_number
from enoughcharge.ways import ENDLESS


def check_charge(charge):
    """Raise the error for any value that is no charge."""
    if not is_number(charge):
        raise NotUsable("charge", -1)


def fall_width(spent, due):
    """The width of a fall where so much is spent and due; what is spent may be endless."""
    return ENDLESS if spent == ENDLESS else spent + due - 1


def is_wide(width, least):
    """Whether a width is at least this one; either may be endless."""
    return width == ENDLESS or (least != ENDLESS and width >= least)


def can_come(width, charge):
    """Whether what has this width, None if it never comes, can come with a charge, a number or endless."""
    return width is not None and is_wide(width, charge)


def is_within(width, other):
    """Whether what has the other width can come with each charge with which what has this one can."""
    return width is None or can_come(other, width)


def bound_of(spent, charge):
    """The lesser of what is spent, which may be endless, and the charge."""
    return charge if spent == ENDLESS else min(int(spent), charge)
