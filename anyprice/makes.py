"""What rules make of amounts for their parts, resource by resource; rules and amounts are tuples here."""

from anyprice.unders import is_at_most, least_of


def raised(part, how, amount):
    """What a part brings with an amount of its thing: extra is 0 where how is not "most"."""
    return tuple([
        number * part[1] if word == "times" else number + more
        for word, number, more in zip(how, amount, part[2])
    ])


def joined(how, one, other):
    """Two rows as one: the greatest where how is "most", else added."""
    return tuple([
        max(number, more) if word == "most" else number + more
        for word, number, more in zip(how, one, other)
    ])


def made(rule, amounts):
    """What a rule makes of as many amounts as it has parts."""
    row = rule[2]
    for part, amount in zip(rule[1], amounts):
        row = joined(rule[3], row, raised(part, rule[3], amount))
    return row


def spread(how, rows, part, amounts, known, limit=None):
    """The least of what rows become by a part with each of the amounts, but for what some known row is at most.

    What a rule makes rises with each part, so what is left out here can be changed for something that is as good;
    and what is not at most the limit, if there is one, makes nothing that is.
    """
    ways = [raised(part, how, amount) for amount in amounts]
    fresh = [joined(how, row, way) for row in rows for way in ways]
    if limit is not None:
        fresh = [row for row in fresh if is_at_most(row, limit)]
    least = least_of(fresh + known)
    if not known:
        return least
    skipped = {row: True for row in known}
    return [row for row in least if row not in skipped]
