"""Which texts are those of rules, told by other means than the program's, and texts with faults."""

import re

TEST = "(not )?((above|level|later) )?(whole|own)"
LETTER_TEXT = re.compile(f"on (ask|day|stop|off)( if {TEST}( and {TEST})*)?( do (take|wipe)( then (take|wipe))*)?")
ANSWER_TEXT = re.compile(
    "on answer( if (not )?level( and (not )?level)*)?( do (count|drop)( then (count|drop))*)?"
)


def is_rule_text(text):
    return bool(LETTER_TEXT.fullmatch(text) or ANSWER_TEXT.fullmatch(text))


def changed(text):
    """Texts that come about if a word or a character of this text is changed."""
    words = text.split(" ")
    more = ["on", "if", "and", "do", "then", "not", "ask", "answer", "whole", "level", "take", "count", "", "x", "\n"]
    for at in range(len(words) + 1):
        for word in more:
            yield " ".join(words[:at] + [word] + words[at:])
            yield " ".join(words[:at] + [word] + words[at + 1:])
    for at in range(len(words)):
        yield " ".join(words[:at] + words[at + 1:])
        yield " ".join(words[:at + 1] + words[at:])
        yield " ".join(words[:at] + [words[at].upper()] + words[at + 1:])
        yield " ".join(words[at:])
        yield " ".join(words[:at])
    for at in range(len(text) + 1):
        for char in " \n.,":
            yield text[:at] + char + text[at:]
        yield text[:at] + text[at + 1:]
