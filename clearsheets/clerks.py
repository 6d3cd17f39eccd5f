"""Clerks, who answer lines about a desk."""

from clearsheets.errors import BadMode, BadRule, Full, NoGroup, NothingToUndo
from clearsheets.texts import group_of, is_group_word, rule_text, words_of
from clearsheets.ways import dots

UNKNOWN = "what"


class Clerk:
    """Answers lines by what a desk tells, edits it as they ask, and keeps the last of them."""

    def __init__(self, desk):
        self._desk = desk
        self._history = ()

    @property
    def history(self):
        """Return the last pairs of a line, None for what was no string, and its answer."""
        return self._history

    def say(self, line):
        """Return the answer to the line, which may be a value of any kind."""
        told = line if isinstance(line, str) else None
        answer = UNKNOWN if told is None else self._answer(words_of(told))
        self._history = (self._history + ((told, answer),))[-10:]
        return answer

    def _answer(self, words):
        """Return the answer to the words, errors of the desk told by their names."""
        try:
            return _done(self._desk, words)
        except BadMode:
            return "no BadMode"
        except BadRule:
            return "no BadRule"
        except Full:
            return "no Full"
        except NoGroup:
            return "no NoGroup"
        except NothingToUndo:
            return "no NothingToUndo"


def _done(desk, words):
    """Do with the desk what the words ask, and return the answer."""
    if len(words) == 1:
        return _told(desk, words[0])
    if len(words) != 2:
        return UNKNOWN
    action, word = words
    if action == "turn":
        return f"ok {desk.turn(word)}"
    return _edited(desk, action, word)


def _told(desk, word):
    """Return the answer to a line of one word."""
    if word == "undo":
        return f"ok {desk.undo()}"
    if word == "contrast":
        return _fraction_text(desk.contrast())
    if word == "dots":
        return str(dots(desk.way()))
    if word == "rule":
        return rule_text(desk.rule)
    if word == "mode":
        return desk.mode
    if word == "changed":
        return desk.changed
    return UNKNOWN


def _fraction_text(told):
    """Return the text of the fraction."""
    top, bottom = told
    return str(top) if bottom == 1 else f"{top}/{bottom}"


def _edited(desk, action, word):
    """Return the answer to a line that tells what is to be done with a group."""
    if not is_group_word(word):
        return UNKNOWN
    group = group_of(word)
    # Digits that do not rise are no text of a group.
    if group != tuple(sorted(set(group))):
        return UNKNOWN
    if action == "show":
        return f"ok {desk.show(group)}"
    if action == "unshow":
        return f"ok {desk.unshow(group)}"
    if action == "hide":
        return f"ok {desk.hide(group)}"
    if action == "unhide":
        return f"ok {desk.unhide(group)}"
    return UNKNOWN
