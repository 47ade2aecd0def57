"""The words of a text, and what kind each of them is."""

KEPT = ("tell", "back", "if", "else", "while", "each", "in", "def", "len", "rest")
LETTERS = "abcdefghijklmnopqrstuvwxyz"
FIGURES = "0123456789"
MOST_LETTERS = 4
MOST_FIGURES = 60


def is_name(word):
    """Whether the word may name a value, a param or a def."""
    return (
        1 <= len(word) <= MOST_LETTERS
        and word not in KEPT
        and all([letter in LETTERS for letter in word])
    )


def is_number(word):
    """Whether the word is a number that isn't fixed: a knob."""
    if word == "0":
        return True
    figures = word[1:] if word.startswith("-") else word
    return (
        1 <= len(figures) <= MOST_FIGURES
        and not figures.startswith("0")
        and all([figure in FIGURES for figure in figures])
    )


def is_fixed(word):
    """Whether the word is a fixed number."""
    return word.startswith("!") and is_number(word[1:])
