"""What several modules ask of the objects that are passed to them."""


def is_int(thing):
    """Tell whether the object is an integer."""
    # True and False are not integers here, but Python counts them among int.
    return isinstance(thing, int) and not isinstance(thing, bool)
