"""Numbers as texts, in figures without a needless nought."""

BLOCK_FIGURES = 60
BLOCK = 10 ** 60


def figures(number):
    """The text of a number of any length."""
    if number < 0:
        return "-" + figures(-number)
    # Block by block, as Python itself refuses to write numbers of some thousands of figures at once.
    blocks = []
    left = number
    while left >= BLOCK:
        left, rest = divmod(left, BLOCK)
        blocks.append(str(rest).zfill(BLOCK_FIGURES))
    blocks.append(str(left))
    return "".join(blocks[::-1])


def is_number(text, most=9):
    """True where the text is a number, nought or above, of at most so many figures."""
    # Python counts figures of other scripts as figures, too; they are none here.
    if not (text.isascii() and text.isdigit()) or len(text) > most:
        return False
    return text == "0" or text[0] != "0"
