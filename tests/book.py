"""Lines, standings and steps just as the document tells them: slowly, and by other means than the program's."""

from tests.guest import LETTERS, PARTS, answer_comes, letter_comes

BEGINS = ("first",) + LETTERS
MARKS = {"c": ("stop", "off"), "n": LETTERS, "o": ("day", "off"), "w": ("ask", "stop"), "x": LETTERS}


def begun_by(begin):
    return "ask" if begin == "first" else begin


def is_sound(raises, line):
    """Whether a line (of the right form, but for the mark x of what comes) is sound."""
    for at, (begin, letters) in enumerate(line):
        if not (at == 0 if begin == "first" else begin in raises):
            return False
        for place, (kind, begins, marks) in enumerate(letters):
            if begins and (place > 0 or kind != begun_by(begin)):
                return False
            if kind in raises and not begins:
                return False
            if any(kind not in MARKS[mark] for mark in marks):
                return False
    marks = [marks for begin, letters in line for kind, begins, marks in letters]
    if len(set("".join(marks))) < len("".join(marks)):
        return False
    return all("n" not in one for one in marks[:-1])


def with_new(line, letter):
    """The line with a new letter at each place in each stretch, and in a new stretch at each place."""
    for at in range(len(line) + 1):
        for begin in BEGINS:
            yield line[:at] + ((begin, (letter,)),) + line[at:]
    for at, (begin, letters) in enumerate(line):
        for place in range(len(letters) + 1):
            yield line[:at] + ((begin, letters[:place] + (letter,) + letters[place:]),) + line[at + 1:]


def with_come(raises, line):
    """The sound lines in which the letter that comes, a marked or a further one, has the mark x."""
    for at, (begin, letters) in enumerate(line):
        for place, (kind, begins, marks) in enumerate(letters):
            here = letters[:place] + ((kind, begins, marks + "x"),) + letters[place + 1:]
            yield line[:at] + ((begin, here),) + line[at + 1:]
    for kind in LETTERS:
        for begins in (True, False):
            for other in with_new(line, (kind, begins, "x")):
                if is_sound(raises, other):
                    yield other


def flat(line):
    """For each letter of a line its stretch and its place in the line, its kind and its marks."""
    rows = []
    for at, (begin, letters) in enumerate(line):
        for kind, begins, marks in letters:
            rows.append(((at, len(rows)), kind, marks))
    return rows


def marked(line, mark):
    """The letter with a mark, as a pair of its stretch and its place, or None."""
    return next((letter for letter, kind, marks in flat(line) if mark in marks), None)


def kind_of(line, letter):
    return next(kind for other, kind, marks in flat(line) if other == letter)


def shown(line):
    return marked(line, "w") if marked(line, "o") is None else marked(line, "o")


def remarked(line, held):
    """The line with the marks at these letters, and without letters that have none."""
    rows, place = [], 0
    for at, (begin, letters) in enumerate(line):
        row = []
        for kind, begins, marks in letters:
            marks = "".join(sorted(mark for mark in held if held[mark] == (at, place)))
            place += 1
            if marks:
                row.append((kind, begins, marks))
        if row:
            rows.append((begin, tuple(row)))
    return tuple(rows)


def comings(plan, line, takes_in):
    """For each coming the line behind it, and whether the newest letter came."""
    for other in with_come(plan.raises, line):
        held = {mark: marked(other, mark) for mark in "cnow" if marked(other, mark) is not None}
        letter = marked(other, "x")
        copy = {part: held[part[0]] for part in ("whole", "own") if part[0] in held}
        _, copy = letter_comes(plan, kind_of(other, letter), letter, copy)
        held = {mark: held[mark] for mark in held if mark in "cn"}
        held.update({part[0]: copy[part] for part in copy})
        now = held.get("o", held.get("w"))
        if takes_in and now is not None and kind_of(other, now) in ("stop", "off"):
            held["c"] = max(now, held.get("c", now))
        yield remarked(other, held), letter == held.get("n")


def beginnings(plan, goal):
    if goal == "back":
        return [((),)]
    lines = [
        ((begin, ((kind, begins, "n"),)),) for begin in BEGINS for kind in LETTERS for begins in (True, False)
    ]
    rest = (False, False) if goal in ("elder", "lost") else ("", False)
    return [(line,) + rest for line in lines if is_sound(plan.raises, line)]


def given_to(line):
    now, newest = shown(line), marked(line, "n")
    return "newest" if now == newest else "level" if now[0] == newest[0] else "elder"


def steps(plan, goal, standing):
    """The standings behind each step."""
    line = standing[0]
    if goal == "back":
        return {(behind,) for behind, _ in comings(plan, line, True)}
    if goal in ("elder", "lost"):
        return {
            (behind, standing[1] or newest, standing[2] or shown(behind) == marked(behind, "n"))
            for behind, newest in comings(plan, line, False)
        }
    if standing[1]:
        raised = "day" in plan.raises or "off" in plan.raises
        return {((), standing[1], standing[2] or raised)}
    rows = {(behind, "", False) for behind, _ in comings(plan, line, False)}
    if shown(line) is not None and kind_of(line, shown(line)) in ("ask", "day"):
        rows.add(((), given_to(line), False))
    return rows


def meets(plan, goal, standing):
    """Whether a standing, or the coming of an answer from it, meets the goal."""
    line = standing[0]
    if goal in ("deaf", "wrong"):
        if not standing[1]:
            return False
        _, counted = answer_comes(plan, standing[1] in ("newest", "level") and not standing[2], None, 0)
        if goal == "wrong":
            return standing[1] != "newest" and counted is not None
        return standing[1] == "newest" and counted is None
    now, newest = shown(line), marked(line, "n")
    if goal == "elder":
        return standing[1] and now != newest
    if goal == "lost":
        return kind_of(line, newest) == "day" and standing[2] and now != newest
    off = marked(line, "c")
    return now is not None and kind_of(line, now) in ("ask", "day") and off is not None and now < off


def is_right(plan, goal, standings):
    """Whether standings of the right form, with sound lines, are a right paper."""
    rows = set(standings)
    if not rows.issuperset(beginnings(plan, goal)):
        return False
    if any(meets(plan, goal, standing) for standing in rows):
        return False
    return all(rows.issuperset(steps(plan, goal, standing)) for standing in rows)


def reached(plan, goal):
    """All standings that come about, or None if one of them meets the goal."""
    rows = set(beginnings(plan, goal))
    queue = list(rows)
    while queue:
        standing = queue.pop()
        if meets(plan, goal, standing):
            return None
        for behind in steps(plan, goal, standing):
            if behind not in rows:
                rows.add(behind)
                queue.append(behind)
    return rows


def rules_and_kinds(plan):
    """The indexes of the rules that are done, and the kinds that are shown, in some weaving."""
    rows = set(beginnings(plan, "wrong"))
    queue = list(rows)
    rules, kinds = set(), set()
    while queue:
        standing = queue.pop()
        line, given, over = standing
        if given:
            rules.add(answer_comes(plan, given in ("newest", "level") and not over, None, 0)[0])
        else:
            if shown(line) is not None:
                kinds.add(kind_of(line, shown(line)))
            for other in with_come(plan.raises, line):
                letter = marked(other, "x")
                copy = {part: marked(other, part[0]) for part in PARTS.values() if marked(other, part[0])}
                rules.add(letter_comes(plan, kind_of(other, letter), letter, copy)[0])
        for behind in steps(plan, "wrong", standing) - rows:
            rows.add(behind)
            queue.append(behind)
    return rules - {None}, kinds


def is_line(raises, value):
    """Whether any value has the form of a line, and is sound."""
    if type(value) is not tuple:
        return False
    for stretch in value:
        if type(stretch) is not tuple or [type(part) for part in stretch] != [str, tuple] or stretch[1] == ():
            return False
        for letter in stretch[1]:
            if type(letter) is not tuple or [type(part) for part in letter] != [str, bool, str]:
                return False
            kind, begins, marks = letter
            if kind not in LETTERS or marks not in subsets("cnow") - {""}:
                return False
    return is_sound(raises, value)


def subsets(word):
    """The words that come about if letters are left out."""
    rows = {""}
    for letter in word:
        rows |= {row + letter for row in rows}
    return rows


def has_form(raises, goal, value):
    """Whether any value has the form of a standing for the goal, with a sound line."""
    if type(value) is not tuple or len(value) != (1 if goal == "back" else 3) or not is_line(raises, value[0]):
        return False
    marks = [mark for mark in "cnow" if marked(value[0], mark) is not None]
    rest = [(type(part), part) for part in value[1:]]
    if goal == "back":
        return "n" not in marks
    if value[0] == ():
        return goal in ("deaf", "wrong") and rest in [
            [(str, word), (bool, over)] for word in ("newest", "level", "elder") for over in (True, False)
        ]
    if "n" not in marks or "c" in marks:
        return False
    if goal in ("deaf", "wrong"):
        return rest == [(str, ""), (bool, False)]
    return [kind for kind, part in rest] == [bool, bool]
