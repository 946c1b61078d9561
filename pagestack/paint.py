"""Painting: boxes as cells of a letter and two colours, and which element a cell shows."""

from pagestack.errors import SizeError

MOST_CELLS = 20000
EMPTY_CELL = (" ", "black", "white", None)


def meeting(one, other):
    """Return the area that two areas share, of width or height 0 if they share none."""
    left = max(one[0], other[0])
    top = max(one[1], other[1])
    right = min(one[0] + one[2], other[0] + other[2])
    bottom = min(one[1] + one[3], other[1] + other[3])
    return (left, top, max(0, right - left), max(0, bottom - top))


class Canvas:
    """A width and a height, and by place (column, row) a cell's (letter, colour, background, element's number)."""

    def __init__(self, width, height):
        if width < 1 or height < 0 or width * height > MOST_CELLS:
            raise SizeError("no size of a canvas")
        self.width = width
        self.height = height
        self.cells = {}

    def cell(self, column, row):
        """Return a cell, an empty one where nothing is painted; raise SizeError outside."""
        if not 0 <= column < self.width or not 0 <= row < self.height:
            raise SizeError("no such cell")
        return self.cells.get((column, row), EMPTY_CELL)

    def visible(self, area, clip):
        """Return the part of an area that is within a clip and the canvas."""
        return meeting(meeting(area, clip), (0, 0, self.width, self.height))

    def fill(self, area, colour, number, clip):
        """Paint an area (left, top, width, height) in a colour, "none" for none; the cells show an element."""
        left, top, width, height = self.visible(area, clip)
        for row in range(top, top + height):
            for column in range(left, left + width):
                if colour == "none":
                    letter, front, behind, _ = self.cell(column, row)
                    self.cells[(column, row)] = (letter, front, behind, number)
                else:
                    self.cells[(column, row)] = (" ", "black", colour, number)

    def write(self, column, row, text, look, clip):
        """Write a text in a (colour, background, element's number); a background "none" leaves what is there."""
        colour, background, number = look
        left, _, width, height = self.visible((column, row, len(text), 1), clip)
        if height == 0:
            return
        for place in range(left, left + width):
            behind = self.cell(place, row)[2] if background == "none" else background
            self.cells[(place, row)] = (text[place - column], colour, behind, number)

    def letter_rows(self):
        """Return the letters of all rows, as texts."""
        return tuple("".join([letter for letter, _, _ in row]) for row in self.shown())

    def shown(self):
        """Return the cells of all rows, without their elements."""
        rows = []
        for row in range(self.height):
            rows.append(tuple(self.cell(column, row)[:3] for column in range(self.width)))
        return tuple(rows)


def element_at(canvas, column, row):
    """Return the number of the element that a cell shows, None for none."""
    return canvas.cell(column, row)[3]


def draw_border(canvas, box, clip):
    """Draw the border of a box that has one and room for it."""
    if box.style["border"] == ("cells", 0) or box.width < 2 or box.height < 2:
        return
    look = (box.style["color"], "none", box.node.number)
    edge = "+" + "-" * (box.width - 2) + "+"
    last = box.top + box.height - 1
    canvas.write(box.left, box.top, edge, look, clip)
    canvas.write(box.left, last, edge, look, clip)
    for row in range(box.top + 1, last):
        canvas.write(box.left, row, "|", look, clip)
        canvas.write(box.left + box.width - 1, row, "|", look, clip)


def write_lines(canvas, box, styles, clip):
    """Write the lines of a box, but for what is not visible."""
    for at, line in enumerate(box.lines):
        row = box.top + box.inset_top + at
        for place, text, node, _ in line.runs:
            told = styles[node.number]
            background = told["background"] if told["display"] == "inline" else "none"
            look = (told["color"], background, node.number)
            if told["visibility"] == "visible":
                canvas.write(box.left + box.inset_left + place, row, text, look, clip)


def placed_children(box, is_below):
    """Return the children that are not static, by z-index: those with one below 0, or the others."""
    rows = []
    for place, child in enumerate(box.children):
        index = child.style["z-index"]
        if child.style["position"] != "static" and (index < 0) == is_below:
            rows.append((index, place))
    return [box.children[place] for _, place in sorted(rows)]


def paint_box(canvas, box, styles, clip):
    """Paint a box and all in it, as far as a clip (left, top, width, height) lets it be seen."""
    area = (box.left, box.top, box.width, box.height)
    # A box without an element has nothing of its own: its cells stay those of the element around.
    if box.node is not None and box.style["visibility"] == "visible":
        canvas.fill(area, box.style["background"], box.node.number, clip)
        draw_border(canvas, box, clip)
    inner = meeting(clip, area) if box.style["overflow"] == "hidden" else clip
    for child in placed_children(box, True):
        paint_box(canvas, child, styles, inner)
    for child in box.children:
        if child.style["position"] == "static":
            paint_box(canvas, child, styles, inner)
    write_lines(canvas, box, styles, inner)
    for child in placed_children(box, False):
        paint_box(canvas, child, styles, inner)
