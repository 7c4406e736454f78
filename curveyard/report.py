"""Answers told as texts."""

from curveyard.placetext import place_text


def answer_row(answer):
    """The row of an answer."""
    word = answer[0]
    if word == "ok":
        return word
    if word == "refused":
        return " ".join(answer)
    if word == "number":
        return str(answer[1])
    if word in ("place", "box"):
        return " ".join([place_text(place) for place in answer[1:]])
    return list_row(word, answer[1])


def list_row(word, things):
    """The row of an answer that is a list."""
    if not things:
        return "none"
    if word == "near":
        return " ".join([f"{gap} {name}" for gap, name in things])
    if word == "pairs":
        return ", ".join([f"{one} {other}" for one, other in things])
    if word == "spans":
        return " ".join([f"{first}-{last}" for first, last in things])
    return " ".join(things)
