"""Best wholes: their front, wholes with its amounts or of least cost, and the program whose front it is."""

from anyprice.checks import check_prices_of
from anyprice.coding import CodePlans
from anyprice.costs import cheapest_of
from anyprice.errors import BadAmount
from anyprice.kinds import is_amount
from anyprice.operatorplans import OperatorPlans
from anyprice.operatorrules import code_entries, operator_entries
from anyprice.refusals import Uncoded
from anyprice.setting import Setting
from anyprice.treerules import SORTS
from anyprice.unders import least_of


class WholePlans:
    """The plans of the wholes of a setting; Uncoded with the first test whose tree has no code within the registers."""

    def __init__(self, setting):
        self.setting = setting
        self.plans = [CodePlans(setting.machine, tree) for _, tree in setting.asked.tests]
        entries = operator_entries(setting.asked)
        for number in range(len(self.plans)):
            amounts = [amount[:2] for amount in self.amounts_within(number)]
            if not amounts:
                raise Uncoded(number)
            entries.extend(code_entries(number, least_of(amounts)))
        self.joined = OperatorPlans(setting.asked, SORTS, entries)

    def amounts_within(self, number):
        """The front amounts of a test's code within the registers."""
        return [amount for amount in self.plans[number].amounts() if amount[2] <= self.setting.registers]

    def whole_of(self, amount):
        """A whole with an amount of the front."""
        plan = self.joined.plan_with(amount)
        codes = self.joined.codes_by(plan)
        return self.joined.tree_by(plan), {number: self.code_of_test(number, codes[number]) for number in codes}

    def code_of_test(self, number, pair):
        """Code of a test that counts such (cycles, bytes), within the registers."""
        for amount in self.amounts_within(number):
            if amount[:2] == pair:
                return self.plans[number].code_with(amount)
        return None

    def best_at(self, prices):
        """A whole of least cost at prices."""
        return self.whole_of(cheapest_of(self.joined.settle(), prices)[0])


def plans_in(base, tested, machine, registers):
    """The plans of the wholes of a tested question, its machine and its registers."""
    return WholePlans(Setting(base, tested, machine, registers))


def whole_front(base, tested, machine, registers):
    """The ascending list of the amounts of wholes that no other whole's amount is at most, unlike."""
    return list(plans_in(base, tested, machine, registers).joined.settle())


def whole_with(base, tested, machine, registers, amount):
    """A whole with an amount of the front."""
    plans = plans_in(base, tested, machine, registers)
    if not is_amount(amount) or tuple(amount) not in plans.joined.settle():
        raise BadAmount(amount)
    return plans.whole_of(tuple(amount))


def best_whole(base, tested, machine, registers, prices):
    """A whole of least cost at prices."""
    plans = plans_in(base, tested, machine, registers)
    check_prices_of(3, prices)
    return plans.best_at(prices)


def whole_program(base, tested, machine, registers):
    """The pair (program, thing) in which the thing's front is that of the wholes."""
    joined = plans_in(base, tested, machine, registers).joined
    return joined.program, joined.goal
