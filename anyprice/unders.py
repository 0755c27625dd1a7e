"""Which amounts are at most which others; amounts are tuples of one length here."""

from anyprice.errors import BadAmounts
from anyprice.kinds import is_amount, is_list


def checked_amounts(amounts):
    """The amounts of a list as tuples; BadAmounts if some thing is none, or not as long as the first one."""
    if not is_list(amounts):
        raise BadAmounts(0)
    for index, amount in enumerate(amounts):
        if not is_amount(amount) or len(amount) != len(amounts[0]):
            raise BadAmounts(index)
    return [tuple(amount) for amount in amounts]


def is_at_most(one, other):
    """Whether one is at most the other in each place."""
    return all([number <= limit for number, limit in zip(one, other)])


def how_many_up_to(numbers, limit):
    """How many of ascending numbers are at most the limit."""
    low, high = 0, len(numbers)
    while low < high:
        middle = (low + high) // 2
        if numbers[middle] <= limit:
            low = middle + 1
        else:
            high = middle
    return low


def least_of(rows):
    """The ascending list, each once, of the rows that no other one is under.

    Of ascending rows only those ahead can be under a row, and they are no more in the first place of three; so
    it is enough to keep, of the last two places, the stairs that the rows so far leave: seconds that rise while
    thirds fall. Of the steps up to a row's second the last one has the least third.
    """
    seconds, thirds, least = [], [], []
    for row in sorted(rows):
        second, third = ((0,) + row)[-2:]
        place = how_many_up_to(seconds, second)
        if place == 0 or thirds[place - 1] > third:
            least.append(row)
            end = place
            while end < len(thirds) and thirds[end] >= third:
                end += 1
            seconds[place:end] = [second]
            thirds[place:end] = [third]
    return least
