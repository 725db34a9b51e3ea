"""Automata of claims: the words at whose last event at a place a claim is true.

A row tells of each part of the claim whether it is true at an event; parts for which nobody asks
later on are left False in it. The chain of a place tells who knows which event as the newest one of
this place: it has, from older to newer ones, pairs of the row of an event and the places that know
it. Events side by side with equal rows count as one, since who knows the newer one knows no more.
So does no event, and an event with nothing in its row."""

from placewords.claims import claim_parts, event_row, false_row
from placewords.explored import explored


def claim_automaton(alphabet, claim, place):
    """Return the least automaton of the words with an event at the place such that the claim is
    true at the last event there."""
    parts = claim_parts(claim)
    told = [_told_parts(parts, at) for at in range(alphabet.places)]
    kept = [_lasting_parts(parts)] * alphabet.places
    kept[place] = [*kept[place], len(parts) - 1]

    # Nodes are pairs: the rows at the last events of all places, and the chains of all places.
    def step(node, letter):
        places = alphabet.letters[letter]
        lasts, chains = node
        newest = [_newest_item(chain, places) for chain in chains]
        known = [chain[index][0] for chain, index in zip(chains, newest)]
        for at in places:
            known[at] = _either(known[at], lasts[at])
        row = event_row(alphabet, parts, letter, known)
        lasts_behind = list(lasts)
        behind = [_chain_of(chain, places, index) for chain, index in zip(chains, newest)]
        for at in places:
            lasts_behind[at] = _only(row, kept[at])
            event = (_only(row, told[at]), ())
            behind[at] = _chain_of((*chains[at], event), places, len(chains[at]))
        return (tuple(lasts_behind), tuple(behind))

    nothing = false_row(parts)
    first_chain = ((nothing, tuple(range(alphabet.places))),)
    first = ((nothing,) * alphabet.places, (first_chain,) * alphabet.places)
    return explored(len(alphabet.letters), first, step, lambda node: node[0][place][-1])


def _told_parts(parts, place):
    # The parts for which an event asks at the newest event of a place that it knows.
    return [part[2] for part in parts if part[0] == "known" and part[1] == place]


def _lasting_parts(parts):
    # The parts for which an event asks at the last events ahead of it at its own places.
    return [index for index, part in enumerate(parts) if part[0] == "once" or part[0] == "chain"]


def _only(row, indexes):
    return tuple([truth and index in indexes for index, truth in enumerate(row)])


def _either(row, other):
    return tuple([one or two for one, two in zip(row, other)])


def _newest_item(chain, places):
    # The index of the newest item that one of the places knows.
    found = 0
    for index, (_, knowing) in enumerate(chain):
        if any([place in knowing for place in places]):
            found = index
    return found


def _chain_of(chain, places, newest):
    # The chain behind a meeting, after which all its places know the item with this index.
    items = []
    for index, (row, knowing) in enumerate(chain):
        others = [place for place in knowing if place not in places]
        known = others + list(places) if index == newest else others
        if len(items) > 0 and items[-1][0] == row:
            known = known + items.pop()[1]
        if len(known) > 0:
            items.append((row, known))
    return tuple([(row, tuple(sorted(known))) for row, known in items])
