"""All orders of some numbers, and all sets of them."""


def orders_of_numbers(many):
    """The ascending list of the tuples of all numbers from 0 up to so many, in all orders."""
    told = [()]
    for _ in range(many):
        told = [(*order, number) for order in told for number in range(many) if number not in order]
    return told


def sets_of_numbers(many):
    """The list of all rising tuples of numbers from 0 up to so many, those with fewer ahead, then ascending."""
    told = []
    level = [()]
    while len(level) > 0:
        told.extend(level)
        level = [(*chosen, number) for chosen in level for number in range(many)
                 if len(chosen) == 0 or number > chosen[-1]]
    return told
