"""Worlds and rows of deeds as texts."""

from oathfall.deeds import MOST_DEEDS, WORDS, is_deed
from oathfall.errors import NoText
from oathfall.lands import is_whole, lands_of
from oathfall.oaths import DUTIES, SHAPES, world_of

LETTERS = ("a", "b", "c", "d", "e", "f")
ROLES = ("me", "you", "who")

# A number has one or two figures.
NUMBERS = 100

# The words of an oath's line that stand ahead of its condition.
HEAD = 7


def show_world(world):
    return "\n".join([show_count(world[0])] + [show_oath(oath) for oath in world[1]])


def show_count(n):
    return f"lands {n}"


def show_oath(oath):
    lands = [show_lands(bits) for bits in (oath[1], oath[2], oath[7])]
    head = [oath[0], lands[0], lands[1], str(oath[4]), str(oath[5]), show_end(oath[6]), lands[2]]
    return " ".join(head + condition_words(oath[3]))


def show_lands(bits):
    return "".join([LETTERS[land] for land in lands_of(bits)]) if bits > 0 else "-"


def show_end(end):
    return "-" if end is None else str(end)


def condition_words(condition):
    words = [condition[0]]
    for kind, part in zip(SHAPES[condition[0]], condition[1:]):
        if kind == "condition":
            words.extend(condition_words(part))
        else:
            words.append(show_part(kind, part))
    return words


def show_part(kind, part):
    if kind == "lands":
        return show_lands(part)
    if kind == "land" and is_whole(part):
        return LETTERS[part]
    return str(part)


def show_row(row):
    return "; ".join([show_deed(deed) for deed in row])


# A duty is written like a deed.
def show_deed(deed):
    return " ".join([deed[0], LETTERS[deed[1]], LETTERS[deed[2]]])


# The whole text is read ahead of what its oaths mean: so whatever is not written as it should be is
# refused first.
def read_world(text):
    lines = text_of(text).split("\n")
    n = read_count(lines[0])
    return world_of(n, [read_oath(line) for line in lines[1:]])


def text_of(thing):
    if not isinstance(thing, str):
        raise NoText("it is no text")
    return thing


def read_count(line):
    return place_of(line, [show_count(n) for n in range(NUMBERS)])


# What is written in one way alone is read by looking for it among all that may be written.
def place_of(text, written):
    if text not in written:
        raise NoText(f"{text!r} does not stand here")
    return written.index(text)


def read_oath(line):
    words = line.split(" ")
    if len(words) <= HEAD:
        raise NoText(f"{line!r} is too short for an oath")
    duty = read_part("duty", words[0])
    makers = read_lands(words[1])
    wards = read_lands(words[2])
    end = None if words[5] == "-" else read_number(words[5])
    knowers = read_lands(words[6])
    condition = read_condition(words[HEAD:])
    return (duty, makers, wards, condition, read_number(words[3]), read_number(words[4]), end, knowers)


def read_number(word):
    return place_of(word, [str(number) for number in range(NUMBERS)])


def read_lands(word):
    return place_of(word, [show_lands(bits) for bits in range(1 << len(LETTERS))])


# The words are gone through from the last one on, so that what a word needs behind it is ready when
# the word is met; no line is too deep for this.
def read_condition(words):
    ready = []
    for kind, word in reversed(list(zip(kinds_of(words), words))):
        if kind == "condition":
            count = len(SHAPES[word])
            ready = [(word,) + tuple(ready[:count])] + ready[count:]
        else:
            ready = [read_part(kind, word)] + ready
    return ready[0]


# Of each word what it stands for: a part of the kind that the words ahead of it ask for.
def kinds_of(words):
    told = []
    wanted = ["condition"]
    for word in words:
        if len(wanted) == 0:
            raise NoText(f"{word!r} stands behind a whole condition")
        told.append(wanted.pop())
        if told[-1] == "condition":
            if word not in SHAPES:
                raise NoText(f"no condition begins with {word!r}")
            wanted.extend(list(reversed(SHAPES[word])))
    if len(wanted) > 0:
        raise NoText("a condition ends too early")
    return told


def read_part(kind, word):
    if kind == "land" and word not in ROLES:
        return place_of(word, LETTERS)
    if kind == "lands":
        return read_lands(word)
    if kind == "oath":
        return read_number(word)
    if kind == "duty" and word not in DUTIES:
        raise NoText(f"{word!r} is no duty")
    if kind == "word" and (word not in WORDS or word == "peace"):
        raise NoText(f"{word!r} is no deed that a did may tell")
    return word


def read_row(world, text):
    if text_of(text) == "":
        return []
    row = [read_deed(world[0], part) for part in text.split("; ")]
    if len(row) > MOST_DEEDS:
        raise NoText(f"there are more than {MOST_DEEDS} deeds")
    return row


def read_deed(n, text):
    words = text.split(" ")
    if len(words) != 3:
        raise NoText(f"{text!r} is no deed")
    deed = (words[0], place_of(words[1], LETTERS), place_of(words[2], LETTERS))
    if not is_deed(n, deed):
        raise NoText(f"{text!r} is no deed")
    return deed
