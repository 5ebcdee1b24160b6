"""Words, and which of them may be known names and variables."""

LETTERS = "abcdefghijklmnopqrstuvwxyz"
LONGEST = 12
RESERVED = ("all", "and", "count", "else", "every", "for", "if", "in", "join", "known", "not", "or", "pass", "some",
            "true", "while")


def is_word(word):
    """Tell whether word is a string of 1 to 12 letters from a to z."""
    if not isinstance(word, str) or not 1 <= len(word) <= LONGEST:
        return False
    return all([letter in LETTERS for letter in word])


def is_free_word(word):
    """Tell whether word is a word that is not reserved."""
    return is_word(word) and word not in RESERVED


def are_known(words):
    """Tell whether words is a tuple of different words that are not reserved."""
    if not isinstance(words, tuple) or not all([is_free_word(word) for word in words]):
        return False
    return len(set(words)) == len(words)
