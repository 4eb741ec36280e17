"""A desk that is told rows of words and answers each with a text."""

from oathfall.deeds import WORDS
from oathfall.errors import NoDeed, NoRow
from oathfall.falls import fall, follows, refuse_beyond
from oathfall.faults import excused, faults
from oathfall.keeping import keep, waits_for
from oathfall.known import idle, known
from oathfall.oaths import DUTIES
from oathfall.reading import read_as
from oathfall.roads import road
from oathfall.texts import LETTERS, read_world, show_deed, show_row, show_world
from oathfall.times import broken, last_turn, read

# What stands behind each word that begins a row of words. Where a deed or a duty stands, it is the
# last thing of all, with its two lands.
FORMS = {
    "do": ("deed", "land", "land"),
    "undo": (),
    "row": (),
    "world": (),
    "read": ("duty", "land", "land"),
    "owes": ("land",),
    "road": ("duty", "land", "land"),
    "waits": ("land",),
    "keep": ("land",),
    "failed": (),
    "fall": (),
    "follows": ("deed", "land", "land"),
    "told": ("land", "duty", "land", "land"),
    "idle": ("oath",),
}


def things_of(world, words):
    if words[0] not in FORMS or len(words) != 1 + len(FORMS[words[0]]):
        raise NoRow("there is no such row")
    kinds = FORMS[words[0]]
    things = [thing_of(world, kind, word) for kind, word in zip(kinds, words[1:])]
    if len(things) > 1 and things[-1] == things[-2]:
        raise NoRow("the same land stands there twice")
    return things


def thing_of(world, kind, word):
    written = written_for(world, kind)
    if word not in written:
        raise NoRow(f"{word!r} does not stand here")
    return written.index(word) if kind in ("land", "oath") else word


def written_for(world, kind):
    if kind == "deed":
        return WORDS
    if kind == "duty":
        return DUTIES
    if kind == "land":
        return LETTERS[:world[0]]
    return [str(j) for j in range(len(world[1]))]


def listed(texts):
    return "; ".join(texts) if len(texts) > 0 else "none"


def answer_row(world, row, things):
    return show_row(row)


def answer_world(world, row, things):
    return show_world(world)


def answer_read(world, row, things):
    return read_as(read(world, row), tuple(things))


def answer_owes(world, row, things):
    return listed([show_deed(duty) for duty in read(world, row)[0] if duty[1] == things[0]])


def answer_road(world, row, things):
    steps = road(world, row, broken(world, row), tuple(things))
    if steps is None:
        return "none"
    return listed([" ".join([show_deed(duty), "by", str(j)]) for duty, j in steps])


def answer_waits(world, row, things):
    waiting = waits_for(last_turn(world, row), things[0])
    return listed([" ".join([LETTERS[b], "by", str(j), "due", str(due)]) for due, j, b, since in waiting])


def answer_keep(world, row, things):
    told = keep(world, row, things[0])
    if told[0] == "way":
        return " ".join(["way"] + [LETTERS[deed[2]] for deed in told[1]])
    return " ".join(["clash"] + [" ".join([part[0], str(part[1]), LETTERS[part[2]]]) for part in told[1]])


def answer_failed(world, row, things):
    ends = [(told[:5], "fault") for told in faults(world, row)]
    ends.extend([(told[:5], "excused") for told in excused(world, row)])
    return listed([show_breach(breach, end) for breach, end in sorted(ends)])


def show_breach(breach, end):
    return " ".join([str(breach[0]), LETTERS[breach[2]], LETTERS[breach[3]], "by", str(breach[1]), end])


def answer_fall(world, row, things):
    return listed([show_deed(deed) for deed in fall(world, row)])


def answer_follows(world, row, things):
    return show_row(follows(world, row, tuple(things)))


def answer_told(world, row, things):
    return answer_read(known(world, things[0]), row, things[1:])


def answer_idle(world, row, things):
    told = idle(world, things[0], [row[:count] for count in range(len(row) + 1)])
    if told is None:
        return "idle"
    return " ".join(["needed", str(told[0]), show_deed(told[1])])


ANSWERS = {
    "row": answer_row,
    "world": answer_world,
    "read": answer_read,
    "owes": answer_owes,
    "road": answer_road,
    "waits": answer_waits,
    "keep": answer_keep,
    "failed": answer_failed,
    "fall": answer_fall,
    "follows": answer_follows,
    "told": answer_told,
    "idle": answer_idle,
}


# A row is never changed, but another one stands in its place: so what is refused changes nothing.
class Desk:
    def __init__(self, text):
        self.world = read_world(text)
        self.deeds = []

    def say(self, row):
        if not isinstance(row, str):
            raise NoRow("it is no text")
        words = row.split(" ")
        things = things_of(self.world, words)
        if words[0] == "do":
            refuse_beyond(len(self.deeds) + 1)
            self.deeds = self.deeds + [tuple(things)]
            return "ok"
        if words[0] == "undo":
            if len(self.deeds) == 0:
                raise NoDeed("there is no deed to take away")
            self.deeds = self.deeds[:-1]
            return "ok"
        return ANSWERS[words[0]](self.world, self.deeds, things)
