"""What kinds of values there are: of any object it is told whether it is one."""

SIGNS = "abcdefghijklmnopqrstuvwxyz0123456789.-"
MOST_SIGNS = 24
MOST_RESOURCES = 3


def is_int(thing):
    """Whether it is an int that is not a bool."""
    return isinstance(thing, int) and not isinstance(thing, bool)


def is_int_from(thing, least):
    """Whether it is an integer from the least one on."""
    return is_int(thing) and thing >= least


def is_number_below(thing, many):
    """Whether it is one of so many numbers, from 0 on."""
    return is_int(thing) and 0 <= thing < many


def is_list(thing):
    """Whether it is a list, or a tuple that stands for one."""
    return isinstance(thing, (list, tuple))


def is_list_of(thing, many):
    """Whether it is a list of so many things."""
    return is_list(thing) and len(thing) == many


def is_row(thing, many):
    """Whether it is a row of so many integers."""
    return is_list_of(thing, many) and all([is_int(number) for number in thing])


def is_amount_of(thing, many):
    """Whether it is an amount of so many resources."""
    return is_list_of(thing, many) and all([is_int_from(number, 0) for number in thing])


def is_amount(thing):
    """Whether it is an amount of one, two or three resources."""
    return is_list(thing) and 1 <= len(thing) <= MOST_RESOURCES and is_amount_of(thing, len(thing))


def is_prices(thing):
    """Whether it is a row of prices, rim too."""
    return is_amount(thing) and max(thing) > 0


def is_prices_above(thing, many):
    """Whether it is a row of so many prices, all of them above 0."""
    return is_list_of(thing, many) and all([is_int_from(number, 1) for number in thing])


def is_budget(thing, many):
    """Whether it is a row with an integer from 0 on, or None, for each of so many resources."""
    return is_list_of(thing, many) and all([limit is None or is_int_from(limit, 0) for limit in thing])


def is_fraction(thing):
    """Whether it is a pair of integers, the latter from 1 on."""
    return is_list_of(thing, 2) and is_int(thing[0]) and is_int_from(thing[1], 1)


def is_thing(thing):
    """Whether it is a string that can name what is had."""
    return isinstance(thing, str) and 1 <= len(thing) <= MOST_SIGNS and all([sign in SIGNS for sign in thing])


def are_sorts(thing):
    """Whether it is a list of one to three sorts of resources."""
    return is_list(thing) and 1 <= len(thing) <= MOST_RESOURCES and all([sort in ("flat", "high") for sort in thing])
