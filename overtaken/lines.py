"""Lines: the marked letters of a row of letters, and the further ones that can be thought between them."""

from overtaken.rules import LETTERS

FIRST = "first"
# Ascending: the stop or off sent last of those that were shown, the newest letter, the own part, the whole part.
MARKS = "cnow"
MARKED_KINDS = {
    "c": ("stop", "off"),
    "n": ("ask", "day", "off", "stop"),
    "o": ("day", "off"),
    "w": ("ask", "stop"),
}

# A letter of a line is told outside of it by a tuple (number, place, begin, kind, begins). The number is that of its
# stretch and the place that in its stretch, both odd for the letters of the line, so that the even ones are free for
# a further letter between them.


def first_kind(begin):
    """The kind of the letter that begins a stretch with this begin."""
    return "ask" if begin == FIRST else begin


def followers(raises):
    """The kinds of letters that do not begin their stretch, each with False."""
    return [(kind, False) for kind in LETTERS if kind not in raises]


def starters(begin, raises):
    """The kinds of the letters that may be alone in a stretch of a line, each with whether it begins the stretch."""
    return [(first_kind(begin), True), *followers(raises)]


def letters_of(line):
    """The letter that bears each mark."""
    held = {}
    for at, (begin, letters) in enumerate(line):
        for place, (kind, begins, marks) in enumerate(letters):
            for mark in marks:
                held[mark] = (2 * at + 1, 2 * place + 1, begin, kind, begins)
    return held


def line_of(held):
    """The line in which these letters bear the marks."""
    stretches = {}
    for letter in sorted(set(list(held.values()))):
        number, _, begin, kind, begins = letter
        marks = "".join([mark for mark in sorted(held) if held[mark] == letter])
        stretches.setdefault((number, begin), []).append((kind, begins, marks))
    return tuple([(begin, tuple(letters)) for (_, begin), letters in stretches.items()])


def letters_in_new_stretch(at, raises):
    """The further letters in a stretch of their own ahead of the one with this index."""
    begins_of = [FIRST, *raises] if at == 0 else raises
    return [
        (2 * at, 0, begin, kind, begins) for begin in begins_of for kind, begins in starters(begin, raises)
    ]


def letters_in_stretch(at, stretch, raises):
    """The further letters in the stretch with this index; none of them behind the newest letter."""
    begin, letters = stretch
    _, begun, _ = letters[0]
    _, _, marks = letters[-1]
    ends = len(letters) if "n" in marks else len(letters) + 1
    rows = [] if begun else [(2 * at + 1, 0, begin, kind, begins) for kind, begins in starters(begin, raises)]
    for place in range(1, ends):
        rows.extend([(2 * at + 1, 2 * place, begin, kind, begins) for kind, begins in followers(raises)])
    return rows


def has_newest(line):
    """Whether the newest letter is in the line, which it ends."""
    return len(line) > 0 and "n" in line[-1][1][-1][2]


def further_letters(line, raises):
    """The letters without marks that may come, at each place where the line with one of them is sound."""
    rows = []
    for at, stretch in enumerate(line):
        # Nothing is ahead of the stretch of the first letter.
        if stretch[0] != FIRST:
            rows.extend(letters_in_new_stretch(at, raises))
        rows.extend(letters_in_stretch(at, stretch, raises))
    if not has_newest(line):
        rows.extend(letters_in_new_stretch(len(line), raises))
    return rows


def first_lines(raises):
    """The sound lines of one letter, the newest one."""
    return [
        ((begin, ((kind, begins, "n"),)),)
        for begin in [FIRST, *raises]
        for kind, begins in starters(begin, raises)
    ]


def is_marks(value, kind):
    """Whether value is a string of ascending marks that a letter of this kind may bear, at least one."""
    if not isinstance(value, str) or value == "":
        return False
    return value == "".join([mark for mark in MARKS if mark in value and kind in MARKED_KINDS[mark]])


def is_letter(value, begin, raises, leads):
    """Whether value is a letter that a stretch with this begin may have; leads is whether it is the first one."""
    if not isinstance(value, tuple) or len(value) != 3:
        return False
    kind, begins, marks = value
    if kind not in LETTERS or not isinstance(begins, bool) or not is_marks(marks, kind):
        return False
    return leads and kind == first_kind(begin) if begins else kind not in raises


def is_stretch(value, raises):
    """Whether value is a stretch that a sound line may have."""
    if not isinstance(value, tuple) or len(value) != 2:
        return False
    begin, letters = value
    if begin != FIRST and begin not in raises or not isinstance(letters, tuple) or len(letters) == 0:
        return False
    return all([is_letter(letter, begin, raises, at == 0) for at, letter in enumerate(letters)])


def is_sound(value, raises):
    """Whether value is a line that is sound if these kinds raise."""
    if not isinstance(value, tuple) or not all([is_stretch(stretch, raises) for stretch in value]):
        return False
    if FIRST in [begin for begin, _ in value[1:]]:
        return False
    marks = "".join([marks for _, letters in value for _, _, marks in letters])
    return len(set(marks)) == len(marks) and ("n" not in marks or has_newest(value))
