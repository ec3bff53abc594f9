"""How the things that a live score tells are written."""


def spaced(things):
    """These, with single spaces between; - of none."""
    return " ".join([str(thing) for thing in things]) if len(things) > 0 else "-"


def slashed(lines):
    """These lines, with strokes between; - of none."""
    return " / ".join(lines) if len(lines) > 0 else "-"


def line_of(event):
    """The elements of an event by form in order, with single spaces between, a voice as its weights."""
    behind = event[2] if event[0] == "enter" else event[2:]
    return spaced(event[:2] + behind)


def lines_of(events):
    """The line of each of these events."""
    return [line_of(event) for event in events]
