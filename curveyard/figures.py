"""Numbers and words as texts write them."""

FIGURES = "0123456789"
LETTERS = "abcdefghijklmnopqrstuvwxyz"
LONGEST_NUMBER = 60
LONGEST_WORD = 12


def number_of(text, most=None):
    """The number that a text writes, None where it writes none or one above most."""
    if not is_made_of(text, FIGURES, LONGEST_NUMBER):
        return None
    if text[0] == "0" and text != "0":
        return None
    number = int(text)
    if most is not None and number > most:
        return None
    return number


def is_word(text):
    """Whether a text can be the name of a curve or a thing."""
    return is_made_of(text, LETTERS, LONGEST_WORD)


def is_made_of(text, signs, longest):
    # Signs are looked up one by one because isdigit, isalpha and int
    # also take figures and letters of other scripts.
    return 1 <= len(text) <= longest and all([sign in signs for sign in text])
