"""Boxes: functions that choose and show no rules, asked until what they tell is whole."""

from anyprice.bests import hull_of, pieces_of_hull
from anyprice.checks import check_many
from anyprice.errors import BadAnswer
from anyprice.kinds import is_amount_of, is_list, is_list_of, is_prices
from anyprice.likes import prices_apart
from anyprice.products import in_lowest_terms, product_of


def asked_through(box, many):
    """The list of the pairs (prices, answer), as asked: at the least corner of what is known that was not asked at."""
    check_many(many)
    pairs = []
    asked = {}
    answers = {}
    corners = []
    prices = (1,) * many
    while prices is not None:
        answer = box(prices)
        if answer is None and not pairs:
            return [(prices, None)]
        pairs.append((prices, checked_answer(pairs, prices, answer)))
        asked[prices] = True
        known = len(answers)
        answers[pairs[-1][1]] = True
        if len(answers) > known:
            corners = corners_of(list(answers))
        prices = min([corner for corner in corners if corner not in asked], default=None)
    return pairs


def checked_answer(pairs, prices, answer):
    """The answer as a tuple; BadAnswer if it is no amount, or does not fit to the earlier ones."""
    if not is_amount_of(answer, len(prices)):
        raise BadAnswer(len(pairs))
    limit = product_of(answer, prices)
    for former, other in pairs:
        if product_of(other, prices) < limit or product_of(answer, former) < product_of(other, former):
            raise BadAnswer(len(pairs))
    return tuple(answer)


def corners_of(amounts):
    """The ascending list of the corners of all pieces of a map, each once."""
    pieces = pieces_of_hull(amounts)
    return sorted({corner for amount in pieces for corner in pieces[amount]})


def box_hull(box, many):
    """The ascending list of the hull of a box's answers, [] for None."""
    return hull_of([answer for _, answer in asked_through(box, many) if answer is not None])


def are_whole(many, thing):
    """Whether it is a list of pairs (prices, answer) such that no amounts besides can cost less anywhere."""
    check_many(many)
    if not is_list(thing) or len(thing) == 0 or not all([is_asked(many, pair) for pair in thing]):
        return False
    if thing[0][1] is None:
        return len(thing) == 1
    if not all([is_amount_of(answer, many) for _, answer in thing]):
        return False
    answers = sorted({tuple(answer) for _, answer in thing})
    for prices, answer in thing:
        if product_of(answer, prices) > min([product_of(other, prices) for other in answers]):
            return False
    asked = {in_lowest_terms(prices): True for prices, _ in thing}
    return all([corner in asked for corner in corners_of(answers)])


def is_asked(many, thing):
    """Whether it is a pair of prices, rim too, and anything."""
    return is_list_of(thing, 2) and is_prices(thing[0]) and len(thing[0]) == many


def boxes_part(one, other, many):
    """None for boxes with equal hulls, else prices above 0 at which their least costs are unlike."""
    return prices_apart(box_hull(one, many), box_hull(other, many))
