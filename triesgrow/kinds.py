"""What is asked of single things in the whole program: whole numbers, signs, words, rooms."""

from triesgrow.errors import NoNumber, NoRoom, NoWord

WORD_MOST = 400


def is_whole(thing):
    """Whether the thing is a whole number."""
    return isinstance(thing, int) and not isinstance(thing, bool)


def is_sign(thing):
    """Whether the thing is a small letter from a to z."""
    return isinstance(thing, str) and len(thing) == 1 and "a" <= thing <= "z"


def is_room(thing, many):
    """Whether the thing is a room where there are so many rooms."""
    return is_whole(thing) and 0 <= thing < many


def signs_ahead(text):
    """How many signs stand in the text, as far as a word goes, ahead of the first thing that is none."""
    ahead = 0
    while ahead < len(text) and ahead < WORD_MOST and is_sign(text[ahead]):
        ahead += 1
    return ahead


def look_at_word(thing):
    """Refuses, with NoWord, what is no word."""
    if not isinstance(thing, str):
        raise NoWord(None)
    ahead = signs_ahead(thing)
    if ahead < len(thing):
        raise NoWord(ahead)


def look_at_room(thing, many):
    """Refuses, with NoRoom, what is no room where there are so many rooms."""
    if not is_room(thing, many):
        raise NoRoom(thing)


def look_at_number(thing, least, most):
    """Refuses, with NoNumber, what is no whole number from the least one to the most."""
    if not is_whole(thing) or not least <= thing <= most:
        raise NoNumber(thing)
