"""Matchings: each of some numbers gets one of its names, no two the same one."""


def matching(choices):
    """The numbers of as many items of `choices` as can be given different names, by name."""
    taken = {}
    for number in choices:
        give(number, choices, taken, {})
    return taken


def give(number, choices, taken, tried):
    """Gives a number one of its names, if this can be done by giving others other ones; whether it was done."""
    for name in choices[number]:
        if name not in tried:
            tried[name] = True
            if name not in taken or give(taken[name], choices, taken, tried):
                taken[name] = number
                return True
    return False


def short_of(choices):
    """The numbers that show that no matching has more: as many more than all their names as stay without one."""
    taken = matching(choices)
    matched = list(taken.values())
    fresh = [number for number in choices if number not in matched]
    numbers = []
    while fresh:
        number = fresh.pop()
        numbers.append(number)
        for name in choices[number]:
            if taken[name] not in numbers and taken[name] not in fresh:
                fresh.append(taken[name])
    return sorted(numbers)
