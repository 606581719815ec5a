"""Runs by parts, and the orders in which a part can be given and asked."""

from beatrows.asking import inputs_given, need_rows
from beatrows.parts import Part
from beatrows.telling import summary_of


def run_by_parts(program, name, rows):
    """The rows of all closed beats, and the faults; refused as Part, then with NoBeats and NoInput."""
    part = Part(program, name)
    need_rows(rows)
    told = []
    for beat, row in enumerate(rows):
        given = inputs_given(program.named(name), row, beat)
        part.begin(True)
        for each, value in given.items():
            part.give(each, value)
        faults = part.close()
        if faults:
            return (told, (beat, faults))
        told.append(part.row())
    return (told, None)


def deeds_of(program, name):
    """Deeds for a beat: inputs given in the node's order, and each out told as early as can be; refused as Part."""
    summary = summary_of(program, name)
    inputs = program.named(name).inputs()
    ends = {out: hangs[-1] if hangs else None for out, _, _, hangs in summary}
    deeds = []
    for place in [None, *inputs]:
        if place is not None:
            deeds.append(("give", place))
        deeds.extend([("tell", out) for out in ends if ends[out] == place])
    return deeds


def are_deeds(program, name, thing):
    """Whether any thing is a list of deeds for a beat, in whatever order; refused as Part."""
    summary = summary_of(program, name)
    due = {("give", each): [] for each in program.named(name).inputs()}
    for out, _, _, hangs in summary:
        due["tell", out] = [("give", each) for each in hangs]
    if not isinstance(thing, list) or len(thing) != len(due):
        return False
    done = {}
    for deed in thing:
        if not _is_deed(deed) or deed not in due or deed in done or not all([each in done for each in due[deed]]):
            return False
        done[deed] = True
    return True


def _is_deed(thing):
    """Whether any thing is a tuple of two texts; others may be none of the keys of a dict."""
    return isinstance(thing, tuple) and len(thing) == 2 and isinstance(thing[0], str) and isinstance(thing[1], str)
