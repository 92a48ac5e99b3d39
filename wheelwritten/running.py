"""Transforms made by the passes of a plan."""

from wheelwritten.crossing import is_alike
from wheelwritten.passing import pass_made
from wheelwritten.planchecker import is_right_plan
from wheelwritten.plankinds import is_plan
from wheelwritten.roots import need_root
from wheelwritten.stores import store_of, values_of
from wheelwritten.transforms import are_values, scaled_down, turned_root
from wheelwritten.usable import need


def _stores_of(numbering, prime, root, plan, values):
    """The list of the store of the values and of the stores behind each pass."""
    stores = [store_of(numbering, values)]
    for single in plan:
        stores.append(pass_made(numbering, prime, root, stores[-1], single))
    return stores


def run_stores(numbering, prime, root, plan, values):
    """The tuple of the store of the values and of the stores behind each pass."""
    need_root(prime, numbering[0], root)
    need(is_plan(numbering, plan), "plan")
    need(are_values(prime, numbering[0], values), "values")
    return tuple(_stores_of(numbering, prime, root, plan, values))


def need_run(numbering, other, prime, root, plan):
    """NotUsable unless other, prime, root and a right plan are as stated."""
    need(is_alike(numbering, other), "other")
    need_root(prime, numbering[0], root)
    need(is_right_plan(numbering, other, plan), "plan")


def plan_run(numbering, other, prime, root, plan, values):
    """The transform of the values, by a right plan."""
    return values_of(other, _stores_of(numbering, prime, root, plan, values)[-1])


def plan_run_back(numbering, other, prime, root, plan, values):
    """The values whose transform values is, by a right plan."""
    wheel = numbering[0]
    # By the root turned about the values come back, each as often as the wheel has places.
    return scaled_down(prime, wheel, plan_run(numbering, other, prime, turned_root(prime, wheel, root), plan, values))


def run_plan(numbering, other, prime, root, plan, values):
    """The transform of the values."""
    need_run(numbering, other, prime, root, plan)
    need(are_values(prime, numbering[0], values), "values")
    return plan_run(numbering, other, prime, root, plan, values)


def run_back(numbering, other, prime, root, plan, values):
    """The values whose transform values is."""
    need_run(numbering, other, prime, root, plan)
    need(are_values(prime, numbering[0], values), "values")
    return plan_run_back(numbering, other, prime, root, plan, values)
