"""Lines: pieces of text put into lines of a width."""


class Line:
    """Runs of a line: (place from the line's beginning, text, element, width)."""

    def __init__(self):
        self.runs = []
        self.width = 0

    def add(self, piece, text):
        """Add a piece's text at the end."""
        width = piece.width if piece.kind == "thing" else len(text)
        self.runs.append((self.width, text, piece.node, width))
        self.width += width

    def move(self, cells):
        """Let all runs stand some cells further on."""
        self.runs = [(place + cells, text, node, width) for place, text, node, width in self.runs]


class Breaker:
    """Lines of a width that are filled, and the last space, which is put only if something follows it in its line."""

    def __init__(self, width):
        self.width = width
        self.lines = [Line()]
        self.space = None

    def end_line(self):
        """Begin a new line."""
        self.lines.append(Line())
        self.space = None

    def put(self, piece):
        """Put a piece of any kind."""
        if piece.kind == "end":
            self.end_line()
        elif piece.kind == "space":
            if self.lines[-1].runs != []:
                self.space = piece
        else:
            self.put_space_before(piece)
            if piece.kind == "thing":
                self.lines[-1].add(piece, piece.text)
            else:
                self.put_word(piece)

    def put_space_before(self, piece):
        """Put the space that waits, or begin a new line if what follows does not fit behind it."""
        if self.space is None:
            return
        line = self.lines[-1]
        if line.width + 1 + piece.width > self.width:
            self.end_line()
        else:
            line.add(self.space, " ")
            self.space = None

    def put_word(self, piece):
        """Put a word, which goes on in new lines where it does not fit."""
        rest = piece.text
        while rest != "":
            # Without at least one cell a line a word would never end.
            room = max(0, max(1, self.width) - self.lines[-1].width)
            if room > 0:
                self.lines[-1].add(piece, rest[:room])
            rest = rest[room:]
            if rest != "":
                self.end_line()


def lines_of(pieces, width):
    """Return the lines of pieces in a width, all from the left; a last line without anything is left out."""
    breaker = Breaker(width)
    for piece in pieces:
        breaker.put(piece)
    lines = breaker.lines
    return lines if lines[-1].runs != [] else lines[:-1]


def break_lines(pieces, width, align):
    """Return the lines of pieces in a width, aligned; a last line without anything is left out."""
    lines = lines_of(pieces, width)
    for line in lines:
        rest = max(0, width - line.width)
        if align == "center":
            line.move(rest // 2)
        elif align == "right":
            line.move(rest)
    return lines


def widest(pieces):
    """Return the width of pieces when no line is broken but at line ends."""
    whole = sum(piece.width for piece in pieces)
    return max([line.width for line in lines_of(pieces, whole)], default=0)
