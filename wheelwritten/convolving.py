"""Products of values on a wheel."""

from wheelwritten.kinds import is_number, is_wheel
from wheelwritten.running import need_run, plan_run, plan_run_back
from wheelwritten.transforms import are_values
from wheelwritten.usable import need


def products_summed(wheel, one, other):
    """The list that has at place s the sum of one[a] times other[b] over all places a, b whose sum is s."""
    return [sum([one[place] * other[(total - place) % wheel] for place in range(wheel)]) for total in range(wheel)]


def wheel_product(prime, wheel, one, other):
    """The product of two values on the wheel, modulo the prime."""
    need(is_wheel(wheel), "wheel")
    need(are_values(prime, wheel, one), "one")
    need(are_values(prime, wheel, other), "other")
    return tuple([total % prime for total in products_summed(wheel, one, other)])


def _are_numbers(wheel, thing):
    """Whether thing is a tuple with a number for each place."""
    return isinstance(thing, tuple) and len(thing) == wheel and all([is_number(value) for value in thing])


def whole_product(wheel, one, other):
    """The product of two tuples of numbers on the wheel, not reduced."""
    need(_are_numbers(wheel, one), "one")
    need(_are_numbers(wheel, other), "other")
    return tuple(products_summed(wheel, one, other))


def product_by_plan(numbering, other, prime, root, plan, left, right):
    """The wheel_product of two values, by two runs of a right plan and one back."""
    need_run(numbering, other, prime, root, plan)
    need(are_values(prime, numbering[0], left), "left")
    need(are_values(prime, numbering[0], right), "right")
    first = plan_run(numbering, other, prime, root, plan, left)
    second = plan_run(numbering, other, prime, root, plan, right)
    both = tuple([one * two % prime for one, two in zip(first, second)])
    return plan_run_back(numbering, other, prime, root, plan, both)
