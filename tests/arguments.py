"""Tests of arguments that are the same for every function: names, places, wrong values, and the order of the checks."""

import copy
import inspect

from helpers import error_of, same


def check_call(case, function, right):
    """The function has these arguments, in this order, and takes them by position and by keyword."""
    case.assertEqual(list(inspect.signature(function).parameters), list(right))
    before = copy.deepcopy(right)
    case.assertEqual(function(**right), function(*right.values()))
    case.assertEqual(function(**right), function(**before))
    case.assertEqual(right, before)


def check_refused(case, function, named, error, told):
    """The call raises this error with this value, and only this value."""
    found, kept = error_of(function, **named)
    case.assertIs(found, error, (function.__name__, list(named)))
    case.assertEqual(len(kept), 1)
    case.assertTrue(all(same(one, told) for one in kept.values()), (function.__name__, kept))


def check_wrong(case, function, right, steps):
    """Each wrong value of each step (name, wrong values) is refused as it should be."""
    for name, wrongs in steps:
        for value, error, told in wrongs:
            check_refused(case, function, {**right, name: value}, error, told)


def check_steps(case, function, right, steps):
    """Of two wrong values at once, the one of the step that is checked first decides."""
    for at, (name, wrongs) in enumerate(steps):
        for later, others in steps[at + 1:]:
            if later == name:
                continue
            for index, (value, error, told) in enumerate(wrongs[::7]):
                other = others[(index * 5) % len(others)][0]
                check_refused(case, function, {**right, later: other, name: value}, error, told)
    for at, (name, wrongs) in enumerate(steps):
        value, error, told = wrongs[-1]
        behind = {later: others[-1][0] for later, others in steps[at + 1:]}
        check_refused(case, function, {**right, **behind, name: value}, error, told)


def check_arguments(case, function, module, right, steps):
    """All of these tests."""
    case.assertEqual(function.__module__, module.__name__)
    check_call(case, function, right)
    check_wrong(case, function, right, steps)
    check_steps(case, function, right, steps)
