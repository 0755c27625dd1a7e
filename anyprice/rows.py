"""Rows of numbers: the least ones of a list, and what one costs."""

from anyprice.errors import BadAmount, BadPrices
from anyprice.kinds import is_amount, is_prices
from anyprice.products import product_of
from anyprice.unders import checked_amounts, least_of


def least_rows(amounts):
    """The ascending list, each once, of those that no other one of the list is under."""
    return least_of(checked_amounts(amounts))


def cost(amount, prices):
    """What the amount costs at prices, rim too."""
    if not is_amount(amount):
        raise BadAmount(amount)
    if not is_prices(prices) or len(prices) != len(amount):
        raise BadPrices(prices)
    return product_of(amount, prices)
