"""Places told as texts."""

from curveyard.figures import number_of


def place_text(place):
    """The text of a place."""
    return ",".join([str(along) for along in place])


def place_of(text, dims):
    """The place that a text writes, or None."""
    place = [number_of(along) for along in text.split(",")]
    return None if len(place) != dims or None in place else tuple(place)
