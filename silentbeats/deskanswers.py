"""What a desk answers to the rows that its live score is asked, or told, by."""

from silentbeats.errors import InvalidRow
from silentbeats.eventreadings import read_as
from silentbeats.eventwords import line_of, lines_of, slashed, spaced
from silentbeats.kinds import is_name
from silentbeats.voicetexts import quotient_word


def answer_to_undo(live):
    """The line of the event that is taken back."""
    return line_of(live.undo())


def answer_to_sum(live):
    """The weights of the sum."""
    return spaced(live.sum_now)


def answer_to_product(live):
    """The weights of the product."""
    return spaced(live.product_now)


def answer_to_silences(live):
    """The divisors at which the sum is silent."""
    return spaced(live.silences_now)


def answer_to_lacking(live):
    """The divisors that are lacking."""
    return spaced(live.lacking_now)


def answer_to_even(live):
    """Whether the product is even."""
    return "yes" if live.is_even() else "no"


def answer_to_table(live):
    """The strings of the table."""
    return slashed(live.table())


def answer_to_events(live):
    """The lines of all events."""
    return str(live)


def answer_to_note(live, name):
    """How many events there are at the moment that is given the name."""
    return str(live.note(name))


def answer_to_since(live, name):
    """The lines of the events after the moment."""
    return slashed(lines_of(live.since(name)))


def answer_to_makers(live, name):
    """The names of the voices that make this one."""
    return spaced(live.makers(name))


def answer_to_fillers(live, name):
    """The names of the voices that fill evenly with this one."""
    return spaced(live.fillers(name))


def answer_to_through(live, room, name):
    """The weights that are heard."""
    return spaced(live.through(room, name))


def answer_to_back(live, room, name):
    """The quotients that are told back."""
    return spaced([quotient_word(top, bottom) for top, bottom in live.back_through(room, name)])


ALONE = {
    "undo": answer_to_undo,
    "sum": answer_to_sum,
    "product": answer_to_product,
    "silences": answer_to_silences,
    "lacking": answer_to_lacking,
    "even": answer_to_even,
    "table": answer_to_table,
    "events": answer_to_events,
}
WITH_NAME = {
    "note": answer_to_note,
    "since": answer_to_since,
    "makers": answer_to_makers,
    "fillers": answer_to_fillers,
}
WITH_ROOM = {"through": answer_to_through, "back": answer_to_back}


def event_in(text):
    """The event that is so written; None if there is none."""
    return read_as(text, False)[0]


def answer_to(live, row):
    """The answer of a desk with this live score to any row but that of a new score."""
    event = event_in(row)
    if event is not None:
        return spaced(live.go(event))
    word, space, behind = row.partition(" ")
    names = behind.split(" ") if space != "" else []
    if word == "bars" and event_in(behind) is not None:
        reason = live.barred(event_in(behind))
        return "-" if reason is None else reason
    if not all([is_name(name) for name in names]):
        raise InvalidRow(row)
    if len(names) == 0 and word in ALONE:
        answer = ALONE[word]
        return answer(live)
    if len(names) == 1 and word in WITH_NAME:
        answer = WITH_NAME[word]
        return answer(live, behind)
    if len(names) == 2 and word in WITH_ROOM:
        answer = WITH_ROOM[word]
        return answer(live, names[0], names[1])
    raise InvalidRow(row)
