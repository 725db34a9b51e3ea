"""Normal forms: the layers of a word and its least form."""

from placewords.words import place_words


def layers(alphabet, word):
    """Return the layers of a word, a list of ascending tuples of independent letters."""
    heights = [0] * alphabet.places
    rows = []
    for letter in word:
        places = alphabet.letters[letter]
        height = max([heights[place] for place in places])
        if height == len(rows):
            rows.append([])
        rows[height].append(letter)
        for place in places:
            heights[place] = height + 1
    return [tuple(sorted(row)) for row in rows]


def ready_letters(alphabet, queues, heads):
    """Return the letters that come next, behind the heads, in the queue of each of their places."""
    return [
        letter
        for letter in range(len(alphabet.letters))
        if _is_ready(alphabet, queues, heads, letter)
    ]


def _is_ready(alphabet, queues, heads, letter):
    for place in alphabet.letters[letter]:
        head = heads[place]
        if head >= len(queues[place]) or queues[place][head] != letter:
            return False
    return True


def least_form(alphabet, word):
    """Return the least word that is equivalent to a word."""
    queues = place_words(alphabet, word)
    heads = [0] * alphabet.places
    found = []
    while len(found) < len(word):
        letter = ready_letters(alphabet, queues, heads)[0]
        found.append(letter)
        for place in alphabet.letters[letter]:
            heads[place] += 1
    return tuple(found)


def is_least(alphabet, word):
    """Tell whether a word is its own least form."""
    return least_form(alphabet, word) == tuple(word)
