"""Claims about events: where they are true in a word.

A claim is taken apart into its parts, of which each stands behind its own parts; a part has the
numbers of its parts in their stead. A row has for each part, by its number, whether it is true at
some event."""


def claim_parts(claim):
    """Return the different parts of a claim; the last one is the claim itself."""
    parts = []
    _number_of(claim, parts)
    return tuple(parts)


def _number_of(claim, parts):
    # The number of a claim among the parts, to which it is added if it is new.
    kind = claim[0]
    if kind == "letter":
        part = (kind, claim[1])
    elif kind == "known":
        part = (kind, claim[1], _number_of(claim[2], parts))
    else:
        part = (kind, *[_number_of(inner, parts) for inner in claim[1:]])
    if part not in parts:
        parts.append(part)
    return parts.index(part)


def false_row(parts):
    """Return the row for a place at which nothing has happened: no part is true."""
    return tuple([False] * len(parts))


def event_row(alphabet, parts, letter, known):
    """Return the row at an event of a letter; known has for each place the row at the newest event
    of this place that is below this event and not itself."""
    lasts = [known[place] for place in alphabet.letters[letter]]
    row = []
    for part in parts:
        row.append(_is_true(part, row, letter, lasts, known))
    return tuple(row)


def _is_true(part, row, letter, lasts, known):
    # The row has all parts ahead of this one; lasts are those at the last events ahead of the event
    # at its own places.
    kind = part[0]
    at = len(row)
    if kind == "letter":
        return part[1] == letter
    if kind == "not":
        return not row[part[1]]
    if kind == "both":
        return row[part[1]] and row[part[2]]
    if kind == "known":
        return known[part[1]][part[2]]
    if kind == "once":
        return row[part[1]] or any([last[at] for last in lasts])
    return row[part[2]] or row[part[1]] and any([last[at] for last in lasts])


def truths(alphabet, word, claim):
    """Return the list that tells of each event of a word whether a claim is true there."""
    parts = claim_parts(claim)
    rows = []
    # For each place the newest events of all places in its view, -1 if there is none.
    views = [[-1] * alphabet.places for _ in range(alphabet.places)]
    nothing = false_row(parts)
    for event, letter in enumerate(word):
        places = alphabet.letters[letter]
        newest = [max([views[place][at] for place in places]) for at in range(alphabet.places)]
        known = [rows[other] if other >= 0 else nothing for other in newest]
        rows.append(event_row(alphabet, parts, letter, known))
        for place in places:
            newest[place] = event
        for place in places:
            views[place] = newest
    return [row[-1] for row in rows]
