"""Texts: bytes as lines of words, and what a name and a number are."""

LETTERS = "abcdefghijklmnopqrstuvwxyz"
DIGITS = "0123456789"
QUOTED = (
    "tax", "in", "on", "over", "item", "from", "step", "free", "of", "bundle", "coupon",
    "off", "less", "cap", "when", "apart", "round", "cash", "by", "line", "total",
)


# No right word holds another byte than a letter's or a digit's: one sign stands for all of those.
def sign_of(byte):
    if 97 <= byte <= 122:
        return LETTERS[byte - 97]
    if 48 <= byte <= 57:
        return DIGITS[byte - 48]
    if byte == 32:
        return " "
    if byte == 10:
        return "\n"
    return "?"


# Behind the last byte 10 there is a line only if there are bytes.
def text_lines(text):
    rows = "".join([sign_of(byte) for byte in text]).split("\n")
    if rows[-1] == "":
        rows.pop()
    return rows


def words_of(row):
    return [word for word in row.split(" ") if word != ""]


def line_of(words):
    return " ".join(words)


# Every line is ended by byte 10, the last one too.
def bytes_of_lines(lines):
    return [ord(sign) for sign in "".join([line + "\n" for line in lines])]


def is_name(word):
    return len(word) <= 8 and word.isalnum() and word[0].isalpha() and word not in QUOTED


def is_number(word):
    return len(word) <= 8 and word.isdigit() and (word == "0" or word[0] != "0")
