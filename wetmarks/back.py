"""A shown lot led back: which spots leave bare all faces that are not in the lot.

Ink is led back from faces, beat by beat, to those from which it comes to them.
"""

from wetmarks.checks import check_at_most, check_beats, check_lot, check_row
from wetmarks.checks import is_shop_face, is_tuple_of, is_word
from wetmarks.rows import course_of, is_dated, is_step, last_moment, newly_inked, spread


def how_wet(shop, row, lot, *, when=0):
    """For each face of a lot for how many beats a spot there may be wet and is let.

    It is None where the spot is let however wet it is.
    """
    check_row(shop, row)
    check_lot(shop, (), lot)
    last = last_moment(row)
    check_at_most(last, when)
    dues = _dues(shop, row, lot)
    told = []
    for face in sorted(dues):
        ahead = [stretch for stretch in dues[face] if stretch[0] >= when]
        high, due, slides = ahead[-1]
        if due > last:
            told.append((face, None))
        elif slides:
            told.append((face, due - high - 1))
        else:
            told.append((face, due - when - 1))
    return told


def let(shop, row, wet, lot):
    """All spots of a wetness that are let: faces, each with a stretch of moments."""
    check_row(shop, row)
    check_beats(wet)
    check_lot(shop, (), lot)
    dues = _dues(shop, row, lot)
    last = last_moment(row)
    return [(face, low, high) for face in sorted(dues) for low, high in _let_stretches(dues[face], wet, last)]


def led_back(shop, row, wet, lot, *, when=0):
    """The faces of all spots that are let, where these show the whole lot; else a clash."""
    _check_asked(shop, row, wet, lot, when)
    course = _course_from(shop, row, wet, when)
    last = last_moment(row)
    barred = _led(course, last, _bare(shop, lot))
    faces = sorted([face for face in lot if face not in barred])
    inked = {face: (when, None) for face in faces}
    for start, end, near in course:
        spread(inked, near, start, end)
    lacking = sorted([face for face in lot if face not in inked])
    if not lacking:
        return ("spots", faces)
    led = _led(course, last, [lacking[0]])
    lasts = sorted([(face, led[face][0]) for face in led])
    # What isn't let comes to a bare face; else it would show the lacking one.
    return ("clash", lacking[0], lasts, [_way_on(barred, face, when) for face, _ in lasts])


def is_clash(shop, row, wet, lot, thing, *, when=0):
    """Whether a thing, whatever it is, shows that no spots so wet show just the lot."""
    _check_asked(shop, row, wet, lot, when)
    if not is_tuple_of(4, thing) or not is_word(("clash",), thing[0]):
        return False
    _, face, lasts, ways = thing
    if not is_shop_face(shop, face) or face not in lot:
        return False
    if not is_dated(shop, lasts) or not isinstance(ways, list):
        return False
    inside = {one: moment for one, moment in lasts}
    if len(inside) < len(lasts) or inside.get(face, -1) < last_moment(row):
        return False
    course = _course_from(shop, row, wet, when)
    held = [_holds_back(inside, near, start, end) for start, end, near in course]
    inking = [_is_inking(shop, course, lot, when, steps) for steps in ways]
    if not all(held) or not all(inking):
        return False
    begun = {steps[0][0]: True for steps in ways}
    return all([moment < when or one in begun for one, moment in lasts])


def _check_asked(shop, row, wet, lot, when):
    """Refuse what is no row, no wetness, no lot and no moment, in this order."""
    check_row(shop, row)
    check_beats(wet)
    check_lot(shop, (), lot)
    check_at_most(last_moment(row), when)


def _bare(shop, lot):
    """The faces that are to stay bare."""
    inside = {face: True for face in lot}
    return [face for face in shop.faces() if face not in inside]


def _course_from(shop, row, wet, when):
    """The row's course while a spot put at a moment is there and wet."""
    return [
        (max(start, when), min(end, when + wet), near)
        for start, end, near in course_of(shop, row)
    ]


def _led(course, last, faces):
    """Each face from which ink comes to some faces within a course, these themselves too.

    It has a tuple: the last moment at which ink that is there still comes to
    them, and the face to which it goes in the beat behind it, None of them.
    """
    led = {face: (last, None) for face in faces}
    for start, end, near in reversed(course):
        line = [face for face in led if face in near]
        moment = end
        # Where nothing new leads there in a beat, nothing does in those ahead.
        while line and moment > start:
            moment -= 1
            line = newly_inked(led, near, line, moment)
    return led


def _way_on(led, face, when):
    """A way of a spot put on a face at a moment, by what is led back."""
    steps = [(face, when)]
    moment, further = led[face]
    while further is not None:
        steps.append((further, moment + 1))
        moment, further = led[further]
    return steps


def _holds_back(inside, near, start, end):
    """Whether no ink comes to faces with moments, by then, from others, or from later ones."""
    for face in inside:
        # What holds in the last of the beats holds in the ones ahead, too.
        beat = min(end, inside[face]) - 1
        if beat >= start:
            for other in near.get(face, []):
                if inside.get(other, -1) < beat:
                    return False
    return True


def _is_inking(shop, course, lot, when, thing):
    """Whether a thing is a way to a bare face, of a spot put at a moment and wet for the course."""
    if not is_dated(shop, thing) or len(thing) == 0:
        return False
    if thing[0][1] != when or thing[-1][0] in lot:
        return False
    last = course[-1][1] if course else when
    steps = [is_step(course, last, thing[k - 1], thing[k]) for k in range(1, len(thing))]
    return all(steps)


def _dues(shop, row, lot):
    """For each face of a lot at which moment ink that is put there comes to a bare face.

    It is a list of tuples (high, due, slides), the later ones ahead, each of the
    moments till high and behind the next one's: ink that is put there then comes
    to a bare face at the moment due, or never where that is beyond the row.
    Where it slides, due is so at high, and one less for each moment ahead.
    """
    last = last_moment(row)
    bare = _bare(shop, lot)
    dues = {face: [(last, last + 1, False)] for face in lot}
    for start, end, near in reversed(course_of(shop, row)):
        far = {face: (0, None) for face in bare}
        spread(far, near, 0, end - start)
        _lead_dues(dues, near, far, start, end)
        for face in far:
            if face in dues:
                touches = far[face][0]
                dues[face].append((end - touches, end, True))
                dues[face].append((start - 1, start + touches, False))
    return dues


def _lead_dues(dues, near, far, start, end):
    """Lead back through a deed what is due behind it, to faces that are too far from bare ones."""
    line = [face for face in near if face in dues]
    moment = end
    while line and moment > start:
        moment -= 1
        news = {}
        for face in line:
            due = dues[face][-1][1]
            for other in near[face]:
                if other in dues and due < news.get(other, dues[other][-1][1]):
                    news[other] = due
        # Within the deed ink comes to a bare face sooner than behind it.
        line = [face for face in news if face not in far or far[face][0] > end - moment]
        for face in line:
            dues[face].append((moment, news[face], False))


def _let_stretches(dues, wet, last):
    """The stretches of moments at which a spot of a wetness is let on a face, by its dues."""
    told = []
    for k, (high, due, slides) in enumerate(dues):
        low = dues[k + 1][0] + 1 if k + 1 < len(dues) else 0
        if due > last or slides and due - high > wet:
            top = high
        elif slides:
            top = low - 1
        else:
            top = min(high, due - wet - 1)
        if told and top >= low and told[-1][0] == top + 1:
            told[-1] = (low, told[-1][1])
        elif top >= low:
            told.append((low, top))
    return told[::-1]
