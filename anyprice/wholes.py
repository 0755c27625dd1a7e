"""Wholes: trees that answer tested questions, with the code of their tests."""

from anyprice.refusals import BadWhole
from anyprice.setting import Setting


def is_whole(base, tested, machine, registers, thing):
    """Whether it is a whole of the tested question."""
    return Setting(base, tested, machine, registers).is_right(thing)


def checked_whole(base, tested, machine, registers, whole):
    """The setting of a whole; BadWhole for any object that is none."""
    setting = Setting(base, tested, machine, registers)
    if not setting.is_right(whole):
        raise BadWhole(whole)
    return setting


def whole_amount(base, tested, machine, registers, whole):
    """The amount (steps, bytes, room) of the whole."""
    return checked_whole(base, tested, machine, registers, whole).amount_of(whole)
