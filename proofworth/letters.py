"""Bytes as a text of signs, and back again."""

LETTERS = "abcdefghijklmnopqrstuvwxyzABCDEFGHIJKLMNOPQRSTUVWXYZ"
DIGITS = "0123456789"
MARKS = "(),:;>~"
BLANKS = " \t\n"
REMARK = "#"
LINE_END = "\n"
STRANGE = "?"


# Every byte becomes one sign, so that a place in the text is the offset of its byte.
# No token begins with a strange sign, whichever byte it stands for.
def text_of(codes):
    signs = {}
    for sign in LETTERS + DIGITS + MARKS + BLANKS + REMARK:
        signs[ord(sign)] = sign
    return "".join([signs.get(code, STRANGE) for code in codes])


def codes_of(text):
    return [ord(sign) for sign in text]
