"""Lines of voices and quotients read back."""

from silentbeats.checks import need
from silentbeats.errors import InvalidText
from silentbeats.kinds import is_quotient

MOST_DIGITS = 60


def integer_in(word):
    """The integer that is so written; None if there is none."""
    digits = word[1:] if word.startswith("-") else word
    if not (digits.isascii() and digits.isdigit() and len(digits) <= MOST_DIGITS):
        return None
    # This bars -0, too: a sign ahead is for what is below 0.
    if digits.startswith("0") and word != "0":
        return None
    return int(word)


def quotient_in(word):
    """The quotient that is so written; None if there is none."""
    top, stroke, bottom = word.partition("/")
    if stroke == "":
        whole = integer_in(word)
        return None if whole is None else (whole, 1)
    pair = (integer_in(top), integer_in(bottom))
    return pair if is_quotient(pair) and pair[1] != 1 else None


def words_behind(text, head):
    """The words of the text behind the first one, which is to be head; at least one."""
    need(isinstance(text, str), "text")
    words = text.split(" ")
    if words[0] != head:
        raise InvalidText(0, 0)
    if len(words) == 1:
        raise InvalidText(0, 1)
    return words[1:]


def all_read(found):
    """The tuple of what was found in the words behind the first one, all of which can stand."""
    for k, thing in enumerate(found):
        if thing is None:
            raise InvalidText(0, k + 1)
    return tuple(found)


def read_voice(text):
    """The voice that voice_line writes so."""
    return all_read([integer_in(word) for word in words_behind(text, "voice")])


def read_quotients(text):
    """The quotients that quotients_line writes so."""
    return all_read([quotient_in(word) for word in words_behind(text, "quotients")])
