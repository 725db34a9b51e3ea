"""Tables of labels, in which places keep what they know of the newest events.

An event gets a label, a number from 1 on; 0 stands for no event. A table belongs to the view of a
place, and has k * k * k labels for k places. With q|r for the newest event of r in the view of q,
it has at q * k * k + r * k + s the newest event of s that the newest event of r that the newest
event of q in this view knows: first the newest event of q, of what is below this one the newest
event of r, and of what is below that one the newest event of s.

Labels are used again. At any moment different events have different labels as long as they are
two steps away from some place, that is, have a label in the row of some newest event that some
place knows. What the functions below compare are such labels alone. An event of a place r that is
two steps away from any place is at most three steps away from r, so that its label stands in the
table of r: a label is new if it stands in no table of the places that meet."""


def empty_table(many):
    """Return the table of a place at which nothing has happened, for this many places."""
    return tuple([0] * (many * many * many))


def known_row(many, table, place):
    """Return the labels of the newest events, for each place, that the newest event of a place in
    the view knows. It has its own label at this place."""
    at = (place * many + place) * many
    return table[at:at + many]


def known_label(many, table, place):
    """Return the label of the newest event of a place in the view, 0 if there is none."""
    return table[(place * many + place) * many + place]


def known_labels(many, table):
    """Return the labels of the newest events, for each place, in the view."""
    return tuple([known_label(many, table, place) for place in range(many)])


def compare_tables(many, first, second, place):
    """Return 0 if the newest event of a place is the same in two views, 1 if the first view has a
    newer one, otherwise -1."""
    one = known_label(many, first, place)
    other = known_label(many, second, place)
    if one == other:
        return 0
    if one == 0 or _is_known(many, first, second, place):
        return -1
    return 1


def _is_known(many, first, second, place):
    # The greatest events that both views have are newest events of some place in each of them.
    # The newest event of the place in the first view is in the second one, too, if one of these
    # knows it.
    label = known_label(many, first, place)
    common = known_labels(many, second)
    for other in range(many):
        row = known_row(many, first, other)
        if row[other] != 0 and row[other] in common and row[place] == label:
            return True
    return False


def best_views(many, tables):
    """Return for each place the index of the table that has the newest event of this place."""
    best = []
    for place in range(many):
        found = 0
        for index in range(1, len(tables)):
            if compare_tables(many, tables[found], tables[index], place) < 0:
                found = index
        best.append(found)
    return best


def met_table(alphabet, letter, tables):
    """Return the table of the places of a letter behind a new event of this letter; tables are
    those that they have ahead of it."""
    many = alphabet.places
    places = alphabet.letters[letter]
    sources = [tables[index] for index in best_views(many, tables)]
    label = _new_label(len(alphabet.letters), letter, tables)
    row = [
        label if place in places else known_label(many, sources[place], place)
        for place in range(many)
    ]
    page = []
    for place in range(many):
        page = page + list(row if place in places else known_row(many, sources[place], place))
    table = []
    for place in range(many):
        at = place * many * many
        table = table + list(page if place in places else sources[place][at:at + many * many])
    return tuple(table)


def _new_label(letters, letter, tables):
    # Each letter has its own labels, so that places that do not meet never choose the same one.
    label = 1 + letter
    while any([label in table for table in tables]):
        label += letters
    return label
