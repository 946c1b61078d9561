"""Layout: the places and sizes of boxes, in cells."""

from pagestack.boxes import built_box
from pagestack.lines import break_lines, widest
from pagestack.values import resolved


def length(box, name, whole):
    """Return a length of a box in cells, auto as 0."""
    found = resolved(box.style[name], whole)
    return 0 if found == "auto" else found


def frame_width(box, whole):
    """Return how wide a box's paddings and borders are."""
    border = length(box, "border", 0)
    return length(box, "padding-left", whole) + length(box, "padding-right", whole) + 2 * border


def frame_height(box, whole):
    """Return how high a box's paddings and borders are."""
    border = length(box, "border", 0)
    return length(box, "padding-top", whole) + length(box, "padding-bottom", whole) + 2 * border


def around_width(box, whole):
    """Return how wide all is that stands beside a box's content."""
    margins = length(box, "margin-left", whole) + length(box, "margin-right", whole)
    return margins + frame_width(box, whole)


def limited(box, width, whole):
    """Return a width as the least and the greatest one of a box allow it."""
    most = resolved(box.style["max-width"], whole)
    if most != "auto":
        width = min(width, most)
    return max(width, length(box, "min-width", whole), 0)


def content_width(box, whole):
    """Return the width of a block's content within a width."""
    width = resolved(box.style["width"], whole)
    if width == "auto":
        width = whole - around_width(box, whole)
    return limited(box, width, whole)


def asked_width(box, whole):
    """Return the width that a box's content asks for before its limits: the told one, else that of what is in it."""
    width = resolved(box.style["width"], whole)
    return wanted_inside(box, whole) if width == "auto" else width


def wanted_width(box, whole):
    """Return the width that a box's content wants, with shares of a width."""
    return limited(box, asked_width(box, whole), whole)


def wanted_inside(box, whole):
    """Return the width that what is in a box wants."""
    if box.pieces != []:
        return widest(box.pieces)
    widths = [wanted_width(child, whole) + around_width(child, whole) for child in box.in_flow()]
    return sum(widths) if box.is_flex() else max(widths, default=0)


def placed_width(box, whole):
    """Return the width of an absolute box's content within the box around: what it wants, as far as that fits."""
    fitting = whole - around_width(box, whole)
    return limited(box, min(asked_width(box, whole), fitting), whole)


def margin_before(box, content, whole):
    """Return the left margin of a block whose content has a width; auto margins share what is left."""
    if box.style["margin-left"] != "auto":
        return length(box, "margin-left", whole)
    rest = max(0, whole - content - around_width(box, whole))
    return rest // 2 if box.style["margin-right"] == "auto" else rest


def put_box(box, left, top, content, whole):
    """Place a box's corner, and lay out all in it for a width of its content; its own shares are of a whole."""
    border = length(box, "border", 0)
    box.left = left
    box.top = top
    box.inset_left = border + length(box, "padding-left", whole)
    box.inset_top = border + length(box, "padding-top", whole)
    box.width = content + frame_width(box, whole)
    if box.pieces != []:
        box.lines = break_lines(box.pieces, content, box.style["text-align"])
        height = len(box.lines)
    elif box.is_flex():
        height = put_rows(box, content)
    else:
        height = put_blocks(box, content)
    if box.style["height"] != "auto":
        height = length(box, "height", 0)
    box.height = height + frame_height(box, whole)
    for child in box.children:
        if child.is_absolute():
            put_absolute(child, box)


def put_blocks(box, content):
    """Place the children of a block below each other, and return how high they are."""
    height = 0
    margin = 0
    for child in box.in_flow():
        height += max(margin, length(child, "margin-top", content))
        width = content_width(child, content)
        left = box.left + box.inset_left + margin_before(child, width, content)
        put_box(child, left, box.top + box.inset_top + height, width, content)
        height += child.height
        margin = length(child, "margin-bottom", content)
    return height + margin


def rows_of(box, content):
    """Return the rows of a flex element's children, each a list of (child, wanted width of its content)."""
    flow = box.in_flow()
    # The place stands behind the order, so that ties stay as they stand.
    places = sorted([(child.style["order"], place) for place, child in enumerate(flow)])
    rows = []
    used = 0
    for _, place in places:
        child = flow[place]
        width = wanted_width(child, content)
        outer = width + around_width(child, content)
        if rows == [] or used + outer > content:
            rows.append([])
            used = 0
        rows[-1].append((child, width))
        used += outer
    return rows


def grown(row, rest):
    """Return the widths of a row's contents, what is left of the row being shared by weight."""
    whole = sum(child.style["grow"] for child, _ in row)
    weight = 0
    given = 0
    widths = []
    for child, width in row:
        weight += child.style["grow"]
        # What the first ones have together is rounded down, so that nothing of the rest is lost.
        share = rest * weight // whole if whole > 0 else 0
        widths.append(width + share - given)
        given = share
    return widths


def justified(word, rest, many):
    """Return (what stands before a row's first child, what stands between two) of the rest of a row."""
    if word == "center":
        return (rest // 2, 0)
    if word == "end":
        return (rest, 0)
    if word == "between" and many > 1:
        return (0, rest // (many - 1))
    return (0, 0)


def put_rows(box, content):
    """Place the children of a flex element in rows, and return how high these are."""
    height = 0
    for row in rows_of(box, content):
        height += put_row(box, row, height, content)
    return height


def put_row(box, row, above, content):
    """Place a row of a flex element's children below some cells, and return how high it is."""
    used = sum(width + around_width(child, content) for child, width in row)
    rest = max(0, content - used)
    widths = grown(row, rest)
    place = 0
    between = 0
    if all(child.style["grow"] == 0 for child, _ in row):
        place, between = justified(box.style["justify"], rest, len(row))
    height = 0
    for (child, _), width in zip(row, widths):
        left = box.left + box.inset_left + place + length(child, "margin-left", content)
        margin = length(child, "margin-top", content)
        put_box(child, left, box.top + box.inset_top + above + margin, width, content)
        height = max(height, margin + child.height + length(child, "margin-bottom", content))
        place += width + around_width(child, content) + between
    return height


def put_absolute(box, around):
    """Place an absolute box within the box around it."""
    whole = around.width
    left = around.left + length(box, "left", whole) + length(box, "margin-left", whole)
    top = around.top + length(box, "top", 0) + length(box, "margin-top", whole)
    put_box(box, left, top, placed_width(box, whole), whole)


def move_relative(box, right, down):
    """Move a box by what the boxes around it moved, and all relative boxes in it and itself by what they tell."""
    if box.style["position"] == "relative":
        right += length(box, "left", box.width)
        down += length(box, "top", 0)
    box.left += right
    box.top += down
    for child in box.children:
        move_relative(child, right, down)


def lay_out(document, styles, width):
    """Return the root's box with all places and sizes, for a window of a width."""
    root = built_box(document.root, styles)
    content = content_width(root, width)
    # The root begins in row 0, whatever its margin above.
    put_box(root, margin_before(root, content, width), 0, content, width)
    move_relative(root, 0, 0)
    return root
