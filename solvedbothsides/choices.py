"""The least one of the shortest tuples of numbers that are enough for something."""


def least_shortest(count, is_enough):
    """Return the least one of the shortest ascending tuples of numbers below count that are enough, None if none is.

    Numbers that are enough stay so with more numbers beside them.
    """
    if not is_enough(tuple(range(count))):
        return None
    choices = [()]
    while True:
        for numbers in choices:
            if is_enough(numbers):
                return numbers
        choices = [(*chosen, more) for chosen in choices for more in range(after(chosen), count)]


def after(numbers):
    """Return the least number that may stand behind these in an ascending tuple."""
    return numbers[-1] + 1 if numbers else 0
