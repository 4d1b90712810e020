"""Steps of objects, and lists that are told, for the tests of all files."""

from fewfind.errors import FindError


def told(thing, step):
    try:
        return getattr(thing, step[0])(*step[1:])
    except FindError as refusal:
        return type(refusal)


def stepped(thing, steps):
    """The thing behind these steps, whatever they tell."""
    for step in steps:
        told(thing, step)
    return thing


def trail_state(trail):
    return (trail.asked(), trail.chosen(), trail.steps(), trail.sizes())


def check_new_each_time(case, tell):
    """A told list is a new one, and what is told stays as it was when the list is changed."""
    once = tell()
    kept = list(once)
    once.append(99)
    once.reverse()
    case.assertEqual(tell(), kept)
    case.assertIsNot(tell(), tell())
    tell().clear()
    case.assertEqual(tell(), kept)
