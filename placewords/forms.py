"""Normal forms: the layers of a word and its least form."""

from placewords.words import place_words


def layers(alphabet, word):
    """Return the layers of a word, a list of ascending tuples of independent letters."""
    heights = [0] * alphabet.places
    rows = []
    for letter in word:
        places = alphabet.letters[letter]
        height = max([heights[place] for place in places])
        if height == len(rows):
            rows.append([])
        rows[height].append(letter)
        for place in places:
            heights[place] = height + 1
    return [tuple(sorted(row)) for row in rows]


def ready_letters(alphabet, queues, heads):
    """Return the letters that come next, behind the heads, in the queue of each of their places."""
    return [
        letter
        for letter in range(len(alphabet.letters))
        if is_ready(alphabet, queues, heads, letter)
    ]


def is_ready(alphabet, queues, heads, letter):
    """Tell whether a letter comes next, behind the heads, in the queue of each of its places."""
    for place in alphabet.letters[letter]:
        head = heads[place]
        if head >= len(queues[place]) or queues[place][head] != letter:
            return False
    return True


def moved_heads(alphabet, heads, letter):
    """Return the heads behind a letter, which is taken off the queues of its places."""
    places = alphabet.letters[letter]
    return tuple([head + (1 if place in places else 0) for place, head in enumerate(heads)])


def taken_letters(alphabet, queues):
    """Return the letters that happen if always the first ready one does, until none is ready."""
    heads = tuple([0] * alphabet.places)
    found = []
    ready = ready_letters(alphabet, queues, heads)
    while len(ready) > 0:
        found.append(ready[0])
        heads = moved_heads(alphabet, heads, ready[0])
        ready = ready_letters(alphabet, queues, heads)
    return tuple(found)


def least_form(alphabet, word):
    """Return the least word that is equivalent to a word."""
    return taken_letters(alphabet, place_words(alphabet, word))


def is_least(alphabet, word):
    """Tell whether a word is its own least form."""
    return least_form(alphabet, word) == tuple(word)
