"""The bytes that names and numbers are made of."""

DIGITS = "0123456789"
SMALL_LETTERS = "abcdefghijklmnopqrstuvwxyz"
GREAT_LETTERS = "ABCDEFGHIJKLMNOPQRSTUVWXYZ"


def is_digit(byte):
    return 48 <= byte <= 57


def is_small_letter(byte):
    return 97 <= byte <= 122


def is_great_letter(byte):
    return 65 <= byte <= 90


def is_letter(byte):
    return is_small_letter(byte) or is_great_letter(byte)


def is_letter_or_digit(byte):
    return is_letter(byte) or is_digit(byte)


def character_of(byte):
    if is_digit(byte):
        return DIGITS[byte - 48]
    if is_small_letter(byte):
        return SMALL_LETTERS[byte - 97]
    return GREAT_LETTERS[byte - 65]


def word_of(row):
    """The text that a row of letters and digits spells."""
    return "".join([character_of(byte) for byte in row])


def number_of(row):
    """The number that a row of digits tells."""
    number = 0
    for byte in row:
        number = number * 10 + byte - 48
    return number


def bytes_of(text):
    return [ord(character) for character in text]
