"""Exchanges, taking away and putting in [2.2], and the paths of words that they make."""

from underwords.groups.factors import is_below
from underwords.groups.states import first_state, put_ahead


def alternating(one, other, many):
    """The word one other one .. of so many letters."""
    return tuple([other if at % 2 else one for at in range(many)])


def is_exchange(system, word, following):
    """Whether one exchange leads from the word to the following one of equal length."""
    unlike = [at for at in range(len(word)) if word[at] != following[at]]
    if not unlike:
        return False
    # The two stretches of an exchange have unlike letters at each place, so it begins at the first of these.
    at = unlike[0]
    one, other = word[at], following[at]
    end = at + system.bond_of(one, other)
    if end == at or end > len(word) or word[end:] != following[end:]:
        return False
    return word[at:end] == alternating(one, other, end - at) and following[at:end] == alternating(other, one, end - at)


def is_taking_away(word, following):
    """Whether two equal neighbours left out of the word give the following one."""
    pairs = [at for at in range(len(word) - 1) if word[at] == word[at + 1]]
    return any([word[:at] + word[at + 2:] == following for at in pairs])


def is_step(system, word, following):
    """Whether one exchange, taking away or putting in leads from the word to the following one."""
    if len(word) == len(following):
        return is_exchange(system, word, following)
    if len(word) == len(following) + 2:
        return is_taking_away(word, following)
    return len(word) == len(following) - 2 and is_taking_away(following, word)


def brought_ahead(system, word, letter):
    """The words by which exchanges lead a shortest word to one that begins with its left letter."""
    path = [word]
    if word[0] == letter:
        return path
    bond = system.bond_of(word[0], letter)
    # Both letters are left letters, so the member has a shortest word with their stretch ahead.
    for at in range(1, bond):
        ahead = path[-1][:at]
        tails = brought_ahead(system, path[-1][at:], letter if at % 2 else word[0])
        path.extend([ahead + tail for tail in tails[1:]])
    path.append(alternating(letter, word[0], bond) + path[-1][bond:])
    return path


def brought_behind(system, word, letter):
    """The words by which exchanges lead a shortest word to one that ends with its right letter."""
    return [turned[::-1] for turned in brought_ahead(system, word[::-1], letter)]


def first_return(links, word):
    """The place of the first letter that makes the word ahead of it no longer, None if there is none."""
    # The state is that of the undone member, whose left letters are the right letters.
    state = first_state(links)
    for at, letter in enumerate(word):
        if is_below(state[letter]):
            return at
        state = put_ahead(links, state, letter)
    return None


def path_to_shortest(system, links, word):
    """The words by which exchanges and taking away lead a word to a shortest one."""
    path = [word]
    at = first_return(links, word)
    while at is not None:
        now = path[-1]
        heads = brought_behind(system, now[:at], now[at])
        path.extend([head + now[at:] for head in heads[1:]])
        path.append(heads[-1][:-1] + now[at + 1:])
        at = first_return(links, path[-1])
    return path


def path_of_shortest(system, one, other):
    """The words by which exchanges lead a shortest word to another one of the same member."""
    path = [one]
    for at, letter in enumerate(other):
        ahead = other[:at]
        tails = brought_ahead(system, path[-1][at:], letter)
        path.extend([ahead + tail for tail in tails[1:]])
    return path


def path_between(system, links, one, other):
    """A path of words from one word to another one of the same member."""
    start = path_to_shortest(system, links, one)
    end = path_to_shortest(system, links, other)
    middle = path_of_shortest(system, start[-1], end[-1])
    return tuple(start + middle[1:] + end[::-1][1:])
