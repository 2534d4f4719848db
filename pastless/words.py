"""The words of lines."""

MOST_DIGITS = 3


def number_in(word):
    """The integer that a word tells in decimal, without a sign and further zeros ahead; -1 if it tells none."""
    if not 1 <= len(word) <= MOST_DIGITS or (word[0] == "0" and len(word) > 1):
        return -1
    for sign in word:
        if not "0" <= sign <= "9":
            return -1
    return int(word)
