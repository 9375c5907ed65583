"""Notes: the rows of a talk as texts, each written in just one way."""

from fewasks.differences import is_piece
from fewasks.errors import NoText
from fewasks.forms import MOST_ROWS, begins_with, is_content_form, is_count, is_label, is_labels, is_pair, is_truths

MOST_THINGS = 400
LAST_INT = 10 ** 18
MOST_PIECES = 40
# The rows of a talk: the first word, then the kinds of the parts behind it.
FORMS = (
    ("hello",),
    ("have", "ints"),
    ("have", "truths"),
    ("want", "ints", "int", "labels", "ints", "truth", "ints"),
    ("lack", "ints", "ints"),
    ("row", "int"),
    ("row", "int", "pack row"),
    ("done",),
    ("house", "marks", "ints", "int"),
    ("bill", "ints", "ints", "ints"),
    ("pack", "int", "int"),
)


def is_note_int(thing):
    return is_count(thing) and thing <= LAST_INT


def are_note_ints(thing):
    return isinstance(thing, tuple) and len(thing) <= MOST_THINGS and all([is_note_int(part) for part in thing])


def is_truth(thing):
    return isinstance(thing, bool)


def are_note_truths(thing):
    return is_truths(thing) and len(thing) <= MOST_THINGS


def are_note_labels(thing):
    return is_labels(thing, MOST_THINGS)


def are_note_marks(thing):
    if not isinstance(thing, tuple) or len(thing) > MOST_THINGS:
        return False
    return all([is_pair(pair) and is_label(pair[0]) and is_note_int(pair[1]) for pair in thing])


def is_note_pack_row(thing):
    if not isinstance(thing, tuple) or len(thing) < 3 or not is_note_int(thing[0]):
        return False
    if thing[1] == "plain":
        return len(thing) == 3 and is_note_content(thing[2])
    return thing[1] == "over" and len(thing) == 4 and is_note_int(thing[2]) and is_note_script(thing[3])


def is_note_content(thing):
    """Whether it has the form of a content, and its ints are such as can be written."""
    if not is_content_form(thing):
        return False
    if thing[0] == "tree":
        return all([is_note_int(name) for label, name in thing[1]])
    return thing[0] == "leaf" or all([is_note_int(name) for name in thing[1] + thing[2:]])


def is_note_script(thing):
    return isinstance(thing, tuple) and len(thing) <= MOST_PIECES and all([is_note_piece(piece) for piece in thing])


def is_note_piece(thing):
    if not is_piece(thing):
        return False
    return len(thing[1]) <= MOST_ROWS if thing[0] == "put" else are_note_ints(thing[1:])


def words_of_int(number):
    return [str(number)]


def words_of_truth(truth):
    return ["yes" if truth else "no"]


def words_of_label(label):
    return [label]


def words_of_entry(pair):
    return [pair[0], str(pair[1])]


def words_of_piece(piece):
    return ["put", str(len(piece[1]))] if piece[0] == "put" else ["take", str(piece[1]), str(piece[2])]


def in_brackets(things, words_of):
    return ["("] + [word for thing in things for word in words_of(thing)] + [")"]


def words_of_ints(numbers):
    return in_brackets(numbers, words_of_int)


def words_of_truths(truths):
    return in_brackets(truths, words_of_truth)


def words_of_labels(labels):
    return in_brackets(labels, words_of_label)


def words_of_entries(pairs):
    return in_brackets(pairs, words_of_entry)


def words_of_pack_row(row):
    if row[1] == "over":
        return [str(row[0]), "over", str(row[2])] + in_brackets(row[3], words_of_piece)
    return [str(row[0]), "plain"] + words_of_content(row[2])


def words_of_content(content):
    if content[0] == "leaf":
        return ["leaf", str(len(content[1]))]
    if content[0] == "tree":
        return ["tree"] + words_of_entries(content[1])
    return ["version"] + words_of_ints(content[1]) + [str(content[2]), str(content[3])]


def lines_of_pack_row(row):
    """The rows that stand as lines of their own."""
    if row[1] == "over":
        return [line for piece in row[3] if piece[0] == "put" for line in piece[1]]
    return list(row[2][1]) if row[2][0] == "leaf" else []


class Unread:
    """What is left of a text: words of its first line, and lines behind it; the next ones stand last."""

    def __init__(self, text):
        lines = text.split("\n")
        self.words = lines[0].split(" ")[::-1]
        self.lines = lines[:0:-1]

    def ahead(self):
        if not self.words:
            raise NoText("the first line ends too early")
        return self.words[-1]

    def next_word(self):
        word = self.ahead()
        self.words.pop()
        return word

    def next_rows(self):
        """As many lines as the next word says."""
        many = read_int(self)
        if many > len(self.lines):
            raise NoText("there are too few lines")
        return tuple([self.lines.pop() for row in range(many)])


def read_int(unread):
    word = unread.next_word()
    # Python reads more than these figures, and refuses very many of them with an error of its own.
    if not 1 <= len(word) <= len(str(LAST_INT)) or not all(["0" <= sign <= "9" for sign in word]):
        raise NoText("no int")
    return int(word)


def read_truth(unread):
    return unread.next_word() == "yes"


def read_label(unread):
    return unread.next_word()


def read_entry(unread):
    label = unread.next_word()
    return (label, read_int(unread))


def read_piece(unread):
    if unread.next_word() == "put":
        return ("put", unread.next_rows())
    begin = read_int(unread)
    return ("take", begin, read_int(unread))


def read_brackets(unread, read_thing):
    """What stands between a ( and a )."""
    unread.next_word()
    things = []
    while unread.ahead() != ")":
        things.append(read_thing(unread))
    unread.next_word()
    return tuple(things)


def read_ints(unread):
    return read_brackets(unread, read_int)


def read_truths(unread):
    return read_brackets(unread, read_truth)


def read_labels(unread):
    return read_brackets(unread, read_label)


def read_entries(unread):
    return read_brackets(unread, read_entry)


def read_pack_row(unread):
    name = read_int(unread)
    if unread.next_word() == "plain":
        return (name, "plain", read_content(unread))
    base = read_int(unread)
    return (name, "over", base, read_brackets(unread, read_piece))


def read_content(unread):
    word = unread.next_word()
    if word == "leaf":
        return ("leaf", unread.next_rows())
    if word == "tree":
        return ("tree", read_entries(unread))
    parents = read_ints(unread)
    root = read_int(unread)
    return ("version", parents, root, read_int(unread))


FITS = {"int": is_note_int, "ints": are_note_ints, "truth": is_truth, "truths": are_note_truths,
        "labels": are_note_labels, "marks": are_note_marks, "pack row": is_note_pack_row}
WORDS = {"int": words_of_int, "ints": words_of_ints, "truth": words_of_truth, "truths": words_of_truths,
         "labels": words_of_labels, "marks": words_of_entries, "pack row": words_of_pack_row}
READS = {"int": read_int, "ints": read_ints, "truth": read_truth, "truths": read_truths,
         "labels": read_labels, "marks": read_entries, "pack row": read_pack_row}


def has_kind(kind, thing):
    fits = FITS[kind]
    return fits(thing)


def has_form(form, row):
    if not begins_with(row, form[0], len(form)):
        return False
    return all([has_kind(kind, part) for kind, part in zip(form[1:], row[1:])])


def text_of(row):
    """The text that writes a row of a talk."""
    for form in FORMS:
        if has_form(form, row):
            return text_by(form, row)
    raise NoText("no row of a talk")


def text_by(form, row):
    words, lines = [form[0]], []
    for kind, part in zip(form[1:], row[1:]):
        words_of = WORDS[kind]
        words.extend(words_of(part))
        if kind == "pack row":
            lines = lines_of_pack_row(part)
    return "\n".join([" ".join(words)] + lines)


def row_of(text):
    """The row that a text writes."""
    if isinstance(text, str):
        for form in FORMS:
            row = row_by(form, text)
            # Reading lets much by that no row is written as; so what was read has to be written just so.
            if has_form(form, row) and text_by(form, row) == text:
                return row
    raise NoText("this writes no row of a talk")


def row_by(form, text):
    """What the text would be by the form, None where its word is another one, an int lacks, or it ends too early."""
    unread = Unread(text)
    if unread.next_word() != form[0]:
        return None
    parts = [form[0]]
    try:
        for kind in form[1:]:
            read_part = READS[kind]
            parts.append(read_part(unread))
    except NoText:
        return None
    return tuple(parts)
