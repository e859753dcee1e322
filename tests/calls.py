"""Calls that are watched: what [2] says of every call is tested at each call of a test."""

from time import perf_counter

# Each call is to answer in little time. Most take some thousandths of a second: so only a way that
# grows far too fast comes near to this, and no slow machine.
LONGEST = 5


def turned(value):
    """An equal value of other objects, in which the keys of each dict were put in the other way round."""
    if isinstance(value, dict):
        return {turned(key): turned(value[key]) for key in list(value)[::-1]}
    if isinstance(value, (list, tuple)):
        return type(value)([turned(item) for item in value])
    return value


def exact(value):
    """A string that is one for equal values of the same kinds, whatever the order of keys."""
    if isinstance(value, dict):
        return "{" + ", ".join(sorted(exact(key) + ": " + exact(value[key]) for key in value)) + "}"
    if isinstance(value, (list, tuple)):
        return type(value).__name__ + "(" + ", ".join(map(exact, value)) + ")"
    return repr(value)


def boxes(value):
    """All lists and dicts in a value, each as often as it stands there."""
    found = [value] if isinstance(value, (list, dict)) else []
    if isinstance(value, dict):
        value = list(value.values())
    if isinstance(value, (list, tuple)):
        for item in value:
            found.extend(boxes(item))
    return found


def call(test, function, *arguments):
    """Calls a function several times, and returns what it returned.

    The test fails if an argument was changed, if equal arguments gave unequal results, if a list or a
    dict of a result is one of an argument, of the other result or stands in the result twice, if a
    later result depends on what the caller does with an earlier one, or if a call took long.
    """
    before = repr(arguments)
    began = perf_counter()
    first, second = function(*arguments), function(*arguments)
    test.assertLess(perf_counter() - began, 2 * LONGEST, "the calls took too long")
    told = exact(first)
    test.assertEqual(repr(arguments), before, "an argument was changed")
    test.assertEqual(exact(second), told, "two calls gave unlike results")
    test.assertEqual(exact(function(*turned(arguments))), told, "equal arguments gave unlike results")
    seen = [id(box) for box in boxes(arguments)]
    new = [id(box) for box in boxes(first) + boxes(second)]
    test.assertEqual(len(set(new)), len(new), "a list or dict was returned twice")
    test.assertFalse(set(new) & set(seen), "a list or dict of an argument was returned")
    for box in boxes(second):
        box.clear()
    test.assertEqual(exact(function(*arguments)), told, "a result was kept")
    test.assertEqual(repr(arguments), before, "an argument is part of a result")
    return first
