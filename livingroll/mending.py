"""The texts on a disk, and how much of them can be trusted when they were cut."""

from livingroll.book import Book
from livingroll.errors import InvalidSaying, NoBook
from livingroll.sayings import format_saying, parse_saying
from livingroll.words import number_of, weighted_sum

CHECK_PRIME = 9973
NUMBER_DIGITS = 9


def disk_line(body):
    """Return the line of a body, with its check and a newline."""
    check = weighted_sum(body) % CHECK_PRIME
    return f"{body} {check:04d}\n"


def saying_line(saying):
    """Return the line of a saying."""
    return disk_line(format_saying(saying))


def area_text(generation, rows):
    """Return the text of an area with a snapshot and no log."""
    lines = [saying_line(row) for row in rows]
    return disk_line(f"area {generation}") + "".join(lines) + disk_line(f"end {len(rows)}")


def read_area(setting, text):
    """Return (generation, snapshot, log) as the longest right prefix of a text tells, or None if there is none."""
    bodies = right_bodies(text)
    generation = number_behind("area", bodies, 0)
    snapshot = leading_sayings(setting, bodies[1:])
    end = 1 + len(snapshot)
    if generation is None or number_behind("end", bodies, end) != len(snapshot):
        return None
    return (generation, snapshot, leading_sayings(setting, bodies[end + 1:]))


def right_bodies(text):
    """Return the bodies of the whole lines ahead of the first one with a wrong check."""
    bodies = []
    for line in text.split("\n")[:-1]:
        body = line[:-5]
        if disk_line(body) != line + "\n":
            break
        bodies.append(body)
    return bodies


def number_behind(word, bodies, index):
    """Return the number that stands behind a word in the body with this index, or None."""
    words = bodies[index].split(" ") if index < len(bodies) else []
    if len(words) != 2 or words[0] != word:
        return None
    return number_of(words[1], NUMBER_DIGITS)


def leading_sayings(setting, bodies):
    """Return the sayings of the bodies ahead of the first one that writes none."""
    sayings = []
    for body in bodies:
        saying = saying_of(setting, body)
        if saying is None:
            break
        sayings.append(saying)
    return sayings


def saying_of(setting, body):
    """Return the saying that a body writes, or None."""
    try:
        return parse_saying(setting, body)
    except InvalidSaying:
        return None


def mend_area(setting, text):
    """Return the longest prefix of a text that is an area, or an empty text."""
    told = read_area(setting, text)
    if told is None:
        return ""
    generation, snapshot, log = told
    # Each body has one written form, so this is what the text begins with.
    return area_text(generation, snapshot) + "".join([saying_line(saying) for saying in log])


def mended(setting, areas):
    """Return the tuple of the two mended texts."""
    return tuple([mend_area(setting, text) for text in areas])


def restore(setting, areas):
    """Return (book, generation, index) of the area with the greatest generation; raise NoBook if there is none."""
    chosen = None
    for index, text in enumerate(areas):
        told = read_area(setting, text)
        if told is not None and (chosen is None or told[0] > chosen[1]):
            chosen = (Book(setting, told[1] + told[2]), told[0], index)
    if chosen is None:
        raise NoBook()
    return chosen
