"""Times of letters: when the events of a word end, and which of them the least time rests on."""

from placewords.alphabets import independent


def ending_times(alphabet, word, times):
    """Return the list of the ending times of all events."""
    ends = [0] * alphabet.places
    found = []
    for letter in word:
        places = alphabet.letters[letter]
        end = max([ends[place] for place in places]) + times[letter]
        for place in places:
            ends[place] = end
        found.append(end)
    return found


def least_time(alphabet, word, times):
    """Return the greatest ending time, 0 for the empty word."""
    return max(ending_times(alphabet, word, times), default=0)


def critical_chain(alphabet, word, times):
    """Return a list of events, each directly before the next one, whose times together are the
    least time."""
    ends = ending_times(alphabet, word, times)
    if len(ends) == 0:
        return []
    chain = [ends.index(max(ends))]
    while ends[chain[-1]] > times[word[chain[-1]]]:
        chain.append(_event_before(alphabet, word, times, ends, chain[-1]))
    return list(reversed(chain))


def _event_before(alphabet, word, times, ends, event):
    # The last event that is directly before this one and ends when this one begins.
    begin = ends[event] - times[word[event]]
    found = event - 1
    while ends[found] != begin or independent(alphabet, word[found], word[event]):
        found -= 1
    return found
