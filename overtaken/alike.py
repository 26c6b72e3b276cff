"""Whether two plans always show the same, and a weaving behind which they do not."""

from overtaken.acting import effects, relation
from overtaken.deciding import events_to
from overtaken.errors import Mismatch
from overtaken.lines import further_letters, letters_of, line_of
from overtaken.standings import explore, moved, shown_letter

PARTING = "parting"


def copies_of(line):
    """Which letters are the parts of the two copies."""
    held = letters_of(line)
    first = {mark: held[mark] for mark in held if mark.islower()}
    second = {mark.lower(): held[mark] for mark in held if mark.isupper()}
    return first, second


def behind(acts, parts, letter):
    """Which letters are the parts of a copy behind the coming of this one; acts are the effects of a plan."""
    takes, wipes = acts[letter[3], relation(letter, parts.get("w")), relation(letter, parts.get("o"))]
    return moved(parts, letter, takes, wipes)


class Pair:
    """Standings of two copies to which the same letters come, one under each plan. They are of the form of those for
    "back": a line bears the marks of the parts of both copies, those of the second one as capital letters."""

    def __init__(self, p, q):
        self.raises = p.raises
        self.first = effects(p)
        self.second = effects(q)

    def beginnings(self, _):
        """The standing in which nothing has come yet."""
        return [((),)]

    def steps(self, _, standing):
        """The standings behind each coming, each with the letter that came and which letters bear the marks then."""
        line = standing[0]
        first, second = copies_of(line)
        rows = []
        for letter in list(letters_of(line).values()) + further_letters(line, self.raises):
            held = behind(self.first, first, letter)
            others = behind(self.second, second, letter)
            held.update({mark.upper(): others[mark] for mark in others})
            rows.append(((line_of(held),), (letter, held)))
        return rows

    def meets(self, _, standing):
        """Whether the copies do not show the same."""
        first, second = copies_of(standing[0])
        return shown_letter(first) != shown_letter(second)


def explored(p, q):
    """What explore returns for the copies under both plans."""
    if p.raises != q.raises:
        raise Mismatch()
    return explore(Pair(p, q), PARTING)


def alike(p, q):
    """Whether both plans show the same behind each event of each weaving without answers."""
    _, met = explored(p, q)
    return met is None


def parting(p, q):
    """Some weaving without answers, with the fewest events that are no deeds, behind which the plans do not show the
    same, or None."""
    origins, met = explored(p, q)
    return None if met is None else tuple(events_to(met, origins))
