"""Numbers as texts have them: decimal, without zeros in front, with at most 100 digits."""

MOST_DIGITS = 100


def is_numeral(word):
    """Tell whether a string is a number from 0 on."""
    # There are signs beyond ASCII that count as digits, too.
    if not word.isascii() or not word.isdigit() or len(word) > MOST_DIGITS:
        return False
    return word == "0" or not word.startswith("0")


def is_signed_numeral(word):
    """Tell whether a string is a number, with a minus in front if it is below 0."""
    if word.startswith("-"):
        return is_numeral(word[1:]) and word != "-0"
    return is_numeral(word)
