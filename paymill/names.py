"""Names: texts of one to eight of the letters a to z."""

_LONGEST = 8


def is_name(thing):
    """Whether anything is a name."""
    if not (type(thing) is str and len(thing) <= _LONGEST):
        return False
    return thing.isascii() and thing.isalpha() and thing.islower()
