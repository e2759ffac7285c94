"""Arrangements: orders in which items leave that arrive one after the other and wait on stacks."""

from stackeffect.errors import InvalidOrder
from stackeffect.integers import check_between, is_between, is_whole

MOST_ITEMS = 9
MOST_COUNTED_ITEMS = 6
MOST_COUNTED_STACKS = 4


def is_order(value):
    """Return whether any value is an order."""
    if not isinstance(value, list) or len(value) > MOST_ITEMS:
        return False
    return all([is_between(item, 0, len(value) - 1) for item in value]) and len(set(value)) == len(value)


def check_order(order):
    """Raise InvalidOrder unless the value is an order."""
    if not is_order(order):
        raise InvalidOrder(order)


def is_conflict(order, low, high):
    """Return whether the lower of two items leaves first, but after an item that arrives after both."""
    before = order[:order.index(low)]
    return high not in before and any([item > high for item in before])


def conflicts(order):
    """Return the ascending list of the pairs of items that cannot use the same stack."""
    check_order(order)
    many = len(order)
    return [(low, high) for low in range(many) for high in range(low + 1, many) if is_conflict(order, low, high)]


def is_assignment(order, value):
    """Return whether any value is an assignment that produces the order."""
    pairs = conflicts(order)
    if not isinstance(value, list) or len(value) != len(order):
        return False
    if not all([is_whole(stack) and stack >= 0 for stack in value]):
        return False
    return all([value[low] != value[high] for low, high in pairs])


def least_assignment(pairs, many, stacks):
    """Return the least assignment of so many items to so many stacks without conflicts, or None."""
    chosen = []
    stack = 0
    while len(chosen) < many:
        item = len(chosen)
        taken = [chosen[low] for low, high in pairs if high == item]
        while stack in taken:
            stack += 1
        if stack < stacks:
            chosen.append(stack)
            stack = 0
        elif chosen:
            # No stack is left for this item, so the one before it must use a higher one.
            stack = chosen.pop() + 1
        else:
            return None
    return chosen


def fewest_stacks(order):
    """Return the least number of stacks that produce the order, and the least assignment to them."""
    pairs = conflicts(order)
    number = 0
    assignment = least_assignment(pairs, len(order), number)
    while assignment is None:
        number += 1
        assignment = least_assignment(pairs, len(order), number)
    return number, assignment


def moves(order, assignment):
    """Return the list of moves that produces the order, in which no item enters before it must."""
    if not is_assignment(order, assignment):
        raise InvalidOrder(assignment)
    made = []
    entered = 0
    for item in order:
        for arriving in range(entered, item + 1):
            made.append(("in", arriving, assignment[arriving]))
        entered = max(entered, item + 1)
        made.append(("out", item, assignment[item]))
    return made


def all_orders(many):
    """Return the list of all orders of so many items."""
    orders = [[]]
    for item in range(many):
        orders = [order[:at] + [item] + order[at:] for order in orders for at in range(item + 1)]
    return orders


def orders_many(n, stacks):
    """Return the number of orders of n items that are possible with so many stacks."""
    check_between(n, 0, MOST_COUNTED_ITEMS)
    check_between(stacks, 1, MOST_COUNTED_STACKS)
    return len([order for order in all_orders(n) if fewest_stacks(order)[0] <= stacks])
