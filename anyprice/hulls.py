"""Hulls: which front amounts are best at some prices above 0, alone or beside others, and which never are."""

from anyprice.bests import hull_of, is_only_best, middle_of, piece_of
from anyprice.checks import check_amount
from anyprice.fronts import front
from anyprice.mixes import mix_for


def hull(program, thing):
    """The ascending list of the front amounts that are alone."""
    return hull_of(front(program, thing))


def standing(program, thing, amount):
    """Whether the front amount is "alone", "beside" or "never"."""
    amounts = front(program, thing)
    check_amount(amounts, amount)
    middle = middle_of(piece_of(tuple(amount), amounts))
    if middle is None:
        return "never"
    return "alone" if is_only_best(tuple(amount), amounts, middle) else "beside"


def prices_for(program, thing, amount):
    """Prices above 0 at which no front amount costs less, None if there are none."""
    amounts = front(program, thing)
    check_amount(amounts, amount)
    return middle_of(piece_of(tuple(amount), amounts))


def mix_against(program, thing, amount):
    """A mix of few other front amounts that is at most the amount; None for one that is alone.

    Hull amounts are enough for it. Where a mix can be less than the amount, as for what never is best, mix_for
    tells such a one.
    """
    amounts = front(program, thing)
    check_amount(amounts, amount)
    return mix_for(amount, hull_of(amounts))
