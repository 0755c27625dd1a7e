"""What is seen of front amounts: their levels within bounds, their views, and what tops of them have."""

from anyprice.bests import hull_of, is_only_best, middle_of, piece_of
from anyprice.unders import is_at_most


def places_of(sorts, word):
    """The numbers of the resources of this sort."""
    return [place for place, sort in enumerate(sorts) if sort == word]


def taken(row, places):
    """The numbers that the row has in these places."""
    return tuple([row[place] for place in places])


def rows_within(sorts, amounts, bounds):
    """The ascending list of the rows, each once, that amounts within the bounds have in the flat resources."""
    flats, highs = places_of(sorts, "flat"), places_of(sorts, "high")
    return sorted({taken(amount, flats) for amount in amounts if is_at_most(taken(amount, highs), bounds)})


def level_of(sorts, amounts, bounds):
    """The level within bounds of what has these front amounts."""
    rows = rows_within(sorts, amounts, bounds)
    return hull_of(rows) if "flat" in sorts else rows


def is_in_view(sorts, amounts, amount):
    """Whether the amount's flat row is in the level within its own high numbers."""
    row = taken(amount, places_of(sorts, "flat"))
    if not row:
        return True
    rows = rows_within(sorts, amounts, taken(amount, places_of(sorts, "high")))
    middle = middle_of(piece_of(row, rows))
    return middle is not None and is_only_best(row, rows, middle)


def seen_of(sorts, amounts, kind):
    """What is seen by the kind of the amounts, which are a front."""
    if kind == "prices":
        return hull_of(amounts)
    if kind == "around":
        return [amount for amount in amounts if is_in_view(sorts, amounts, amount)]
    return list(amounts)


def topped_rows(sorts, amounts, bounds):
    """What the rule that tops a thing makes of its amounts: high numbers become the bounds, where these are more."""
    limits = dict(zip(places_of(sorts, "high"), bounds))
    return [
        tuple([max(number, limits.get(place, 0)) for place, number in enumerate(amount)])
        for amount in amounts
    ]
