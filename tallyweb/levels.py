"""Levels: the greatest of several numbers brought down to one level."""


def least_where(low, high, holds):
    # Where it holds of a number it holds of each greater one, and it holds of the high one.
    while low < high:
        middle = (low + high) // 2
        if holds(middle):
            high = middle
        else:
            low = middle + 1
    return low


def above(numbers, level, most):
    return [min(most, max(0, number - level)) for number in numbers]


def shares(numbers, much, most):
    # So much is taken off one by one, each time from the greatest number, off none more than the most.
    level = least_where(0, max(numbers, default=0), lambda tried: sum(above(numbers, tried, most)) <= much)
    taken = above(numbers, level, most)
    deeper = above(numbers, level - 1, most)
    one_more = [place for place in range(len(numbers)) if deeper[place] > taken[place]][:much - sum(taken)]
    return [many + 1 if place in one_more else many for place, many in enumerate(taken)]
