"""Words, and how numbers and texts stand in them."""

from tonguegate.kinds import is_whole
from tonguegate.worths import WORD_NUMBERS


def is_word(thing):
    """Whether anything is a word."""
    return is_whole(thing) and 0 <= thing < WORD_NUMBERS


def words_of_number(halves, width, number):
    """The number in so many words."""
    words = []
    rest = number
    for place in range(width):
        # Rounded down, a number below 0 gives the words that its sum with 65536 to the power width has.
        rest, word = divmod(rest, WORD_NUMBERS)
        words.append(word)
    return tuple(words if halves == "low" else words[::-1])


def number_of_words(halves, words):
    """The number that stands in the words."""
    number = 0
    numbers = 1
    for word in words if halves == "low" else words[::-1]:
        number += word * numbers
        numbers *= WORD_NUMBERS
    return number - numbers if 2 * number >= numbers else number


def words_of_text(texts, text):
    """The text in words, those of its count or its end among them."""
    signs = tuple([ord(sign) for sign in text])
    return (len(signs),) + signs if texts == "count" else signs + (0,)


def text_of_signs(signs):
    """The text whose signs have these numbers."""
    return bytes(signs).decode("ascii")
