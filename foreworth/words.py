"""The forms of words, names and prices."""


def is_word(text):
    """Tell whether the text is a word: 1 to 8 letters from a to z."""
    return 1 <= len(text) <= 8 and all("a" <= letter <= "z" for letter in text)


def is_price(text):
    """Tell whether the text is a price: 1 to 12 digits without a leading zero."""
    if not 1 <= len(text) <= 12 or text[0] == "0":
        return False
    return all("0" <= digit <= "9" for digit in text)
