"""Texts parted into tokens."""

from onexpression.letters import is_digit, is_letter, is_letter_or_digit, is_small_letter, number_of, word_of

BLANKS = (32, 10)
WORDS = ("if", "then", "else")
LONGEST_NAME = 12
MOST_DIGITS = 18

SIGN_KINDS = {
    59: "semicolon",
    58: "colon",
    123: "curly begin",
    125: "curly end",
    40: "round begin",
    41: "round end",
    91: "square begin",
    93: "square end",
    44: "comma",
    46: "point",
    61: "equal",
    60: "less",
    62: "greater",
    43: "plus",
    45: "minus",
    42: "times",
    47: "over",
    37: "rest",
    38: "and",
    124: "or",
    33: "not",
    63: "question",
    35: "own",
}


class Token:
    """A token: its kind, its place, the place behind it, and what it tells (a number's number, a name's text).

    The kinds are "number", "small", "great", the words themselves, those of the signs, and two that close
    a row of tokens: "end", at the text's end, and "fault", which tells the fault's number.
    """

    def __init__(self, kind, place, after, told):
        self.kind = kind
        self.place = place
        self.after = after
        self.told = told


def fault_token(number, place):
    return Token("fault", place, place, number)


def letters_end(text, place):
    while place < len(text) and is_letter_or_digit(text[place]):
        place += 1
    return place


def digits_end(text, place):
    while place < len(text) and is_digit(text[place]):
        place += 1
    return place


def name_token(text, place):
    after = letters_end(text, place)
    if after - place > LONGEST_NAME:
        return fault_token(2, place)
    word = word_of(text[place:after])
    if word in WORDS:
        return Token(word, place, after, word)
    if is_small_letter(text[place]):
        return Token("small", place, after, word)
    return Token("great", place, after, word)


def number_token(text, place):
    after = digits_end(text, place)
    if after - place > MOST_DIGITS:
        return fault_token(3, place)
    return Token("number", place, after, number_of(text[place:after]))


def token_at(text, place):
    byte = text[place]
    if is_letter(byte):
        return name_token(text, place)
    if is_digit(byte):
        return number_token(text, place)
    if byte in SIGN_KINDS:
        return Token(SIGN_KINDS[byte], place, place + 1, 0)
    return fault_token(1, place)


def tokens_of(text):
    """The tokens of a text, closed by an "end", or, where the text has a fault, by that "fault"."""
    tokens = []
    place = 0
    while place < len(text):
        if text[place] in BLANKS:
            place += 1
        else:
            token = token_at(text, place)
            tokens.append(token)
            if token.kind == "fault":
                return tokens
            place = token.after
    tokens.append(Token("end", len(text), len(text), 0))
    return tokens


def good_name(row):
    """The text of the good name that the bytes are, or the empty text if they are none."""
    first = tokens_of(row)[0]
    if first.kind == "small" and first.place == 0 and first.after == len(row):
        return first.told
    return ""
