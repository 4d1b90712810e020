"""Names shown with their layings, and read back."""

from fewfind.errors import NoLaying, NoText
from fewfind.names import are_rising_places, is_name

OPENED = "["
CLOSED = "]"


def runs(name, laying):
    if not are_rising_places(name, laying):
        raise NoLaying("these are no rising places of the name")
    found = []
    for place in laying:
        if len(found) > 0 and place == found[-1][0] + found[-1][1]:
            found[-1] = (found[-1][0], found[-1][1] + 1)
        else:
            found.append((place, 1))
    return found


def shown(name, laying):
    text = ""
    behind = 0
    for first, length in runs(name, laying):
        text += name[behind:first] + OPENED + name[first:first + length] + CLOSED
        behind = first + length
    return text + name[behind:]


def read_shown(text):
    name = ""
    places = []
    within = False
    for sign in text:
        if sign == OPENED or sign == CLOSED:
            within = sign == OPENED
        else:
            if within:
                places.append(len(name))
            name += sign
    # Brackets that stand wrongly are passed over above, but nothing is shown with them.
    if not is_name(name) or shown(name, places) != text:
        raise NoText("this shows no name")
    return (name, places)
