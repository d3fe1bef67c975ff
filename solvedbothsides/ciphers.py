"""Secret words: each thing of such a word is hidden by what stands ahead of it, the first one by a key."""

from solvedbothsides.tables import behind, outcome


def ciphered(table, key, word):
    """Return the word of which each thing is what the thing ahead of it, at first key, gives with the thing of word."""
    made = []
    ahead_of_it = key
    for thing in word:
        ahead_of_it = outcome(table, ahead_of_it, thing)
        made.append(ahead_of_it)
    return tuple(made)


def deciphered(table, key, word):
    """Return the word of which ciphered makes word."""
    return tuple([behind(table, ahead_of_it, thing) for ahead_of_it, thing in zip((key, *word), word)])


def keys(table, pairs):
    """Return the things that, as the key, make the second word of the first one in each pair, ascending."""
    return tuple([key for key in range(len(table)) if is_key(table, key, pairs)])


def is_key(table, key, pairs):
    """Return whether key makes the second word of the first one in each pair."""
    return all([ciphered(table, key, word) == secret for word, secret in pairs])
