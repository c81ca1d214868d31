"""The words of a program's text: names and coins."""

KEPT_WORDS = ("kind", "def", "to", "let", "make", "call", "name", "case", "end", "pay", "get", "give")
LETTERS = "abcdefghijklmnopqrstuvwxyz"
FIGURES = "0123456789"
LONGEST_NAME = 8
LONGEST_COINS = 7


def is_name(text):
    """Whether the text is a name."""
    return is_of(text, LETTERS, LONGEST_NAME) and text not in KEPT_WORDS


def is_coins(text):
    """Whether the text is the number of coins of a pay or get."""
    return is_of(text, FIGURES, LONGEST_COINS) and text[0] != "0"


def is_of(text, signs, longest):
    """Whether the text has one to so many signs, all of them among these."""
    # Python's own isalpha and isdigit know letters and figures of other scripts, too.
    return 1 <= len(text) <= longest and all([sign in signs for sign in text])
