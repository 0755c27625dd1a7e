"""Questions as programs: whose plans of a thing tell the trees of the question."""

from anyprice.errors import BadPlan
from anyprice.looks import is_of_the_question, looked_at
from anyprice.operatorplans import OperatorPlans
from anyprice.operatorrules import operator_entries
from anyprice.plans import plan_thing
from anyprice.questions import asked_of
from anyprice.refusals import BadTree

SORTS = ("flat", "high", "high")


def plans_of(asked):
    """The plans of a question as it is worked with."""
    return OperatorPlans(asked, SORTS, operator_entries(asked))


def question_program(base, question):
    """The pair (program, thing) by whose plans of the thing just the trees of the question are told."""
    plans = plans_of(asked_of(base, question))
    return plans.program, plans.goal


def plan_of_tree(base, question, tree):
    """A plan of the thing for a tree of the question."""
    asked = asked_of(base, question)
    if not is_of_the_question(asked, looked_at(asked, tree)):
        raise BadTree(tree)
    return plans_of(asked).plan_by(tree)


def tree_of_plan(base, question, plan):
    """The tree that a plan of the thing tells."""
    plans = plans_of(asked_of(base, question))
    if plan_thing(plans.program, plan) != plans.goal:
        raise BadPlan(plan)
    return plans.tree_by(plan)
