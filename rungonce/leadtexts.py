"""Leads as texts, whole or by half."""

from rungonce.errors import InvalidText
from rungonce.leads import MOST_CHANGES, check_bells_and_lead
from rungonce.rowplaces import standing_places
from rungonce.rows import all_changes, check_bells


def change_text(bells, change):
    """Return the text of a change; nothing is checked."""
    return "".join([str(place + 1) for place in standing_places(bells, change)]) or "x"


def changes_text(bells, changes):
    """Return the texts of changes, one behind the other, with dots where neither neighbour is an x."""
    text = ".".join([change_text(bells, change) for change in changes])
    return text.replace("x.", "x").replace(".x", "x")


def is_mirrored(lead):
    """Tell whether a lead has an even number of changes and is, but for the last one, its own mirror."""
    return len(lead) % 2 == 0 and lead[:-1] == lead[:-1][::-1]


def whole_words(bells):
    """Return the dict with all changes of so many bells by their texts."""
    return {change_text(bells, change): change for change in all_changes(bells)}


def word_starts(words):
    """Return the dict that tells for all beginnings of words whether they are words themselves."""
    starts = {}
    for word in words:
        for many in range(1, len(word) + 1):
            starts[word[:many]] = word[:many] in words
    return starts


def state_behind(starts, state, sign):
    """Return the state of reading behind a sign, or None if no text goes on with it.

    A state is a triple: the sign that parts the word that is read now from the one ahead, or "", what is read
    of this word, and how many words have begun.
    """
    mark, word, count = state
    if word + sign in starts:
        if word != "":
            return mark, word + sign, count
        return None if mark == "." and sign == "x" else (mark, sign, count + 1)
    if not starts.get(word, False) or mark == ",":
        return None
    if sign == ",":
        return (",", "", count) if 2 * count <= MOST_CHANGES else None
    if count == MOST_CHANGES:
        return None
    if sign == ".":
        return (".", "", count) if word != "x" else None
    if sign in starts and "x" in (word, sign):
        return "", sign, count + 1
    return None


def check_text(starts, text):
    """Raise InvalidText, with the index of the first sign at which no text goes on, if this is none."""
    if not isinstance(text, str):
        raise InvalidText(0)
    state = ("", "", 0)
    for at, sign in enumerate(text):
        state = state_behind(starts, state, sign)
        if state is None:
            raise InvalidText(at)
    if not starts.get(state[1], False):
        raise InvalidText(len(text))


def read_changes(words, text):
    """Return the tuple of the changes whose texts stand, one behind the other, in a text without a comma."""
    parts = text.replace("x", ".x.").split(".")
    return tuple([words[part] for part in parts if part != ""])


def lead_text(bells, lead):
    """Return the text of a lead."""
    check_bells_and_lead(bells, lead)
    return changes_text(bells, lead)


def short_text(bells, lead):
    """Return the short text of a lead, or None if it is not mirrored."""
    check_bells_and_lead(bells, lead)
    if not is_mirrored(lead):
        return None
    return changes_text(bells, lead[:len(lead) // 2]) + "," + change_text(bells, lead[-1])


def read_lead(bells, text):
    """Return the lead of so many bells that has a text, or a short text."""
    check_bells(bells)
    words = whole_words(bells)
    check_text(word_starts(words), text)
    first, comma, last = text.partition(",")
    half = read_changes(words, first)
    if comma == "":
        return half
    return half + half[:-1][::-1] + (words[last],)
