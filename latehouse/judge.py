"""What words show: the backing of a row, and who is to blame for unlike words."""

from latehouse.counts import check_count, enough, is_whole
from latehouse.words import LAST_NUMBER, MARK, is_row, is_word, place


def is_backing(count, number, row, words):
    """Tell whether words, of any kind, are a backing of a row at a number."""
    check_count(count)
    # Asked ahead of any comparing, since True would pass for 1, and other kinds compare in their own way.
    if not is_whole(number, 0, LAST_NUMBER) or not is_row(row) or type(words) is not list:
        return False
    if not all([is_word(count, word) for word in words]):
        return False
    if not all([word[:3] == (MARK, number, row) for word in words]):
        return False
    houses = {word[3] for word in words}
    return len(houses) == len(words) and len(words) >= enough(count)


def words_by_place(words):
    """Return a dict from places to lists of the words that stand there, the earliest first."""
    found = {}
    for word in words:
        found.setdefault(place(word), []).append(word)
    return found


def blamed(ones, others):
    """Return a list of tuples (house, one, other), rising by house, each house once."""
    against = words_by_place(others)
    blames = {}
    for one in ones:
        house = one[3]
        unlike = [other for other in against.get(place(one), []) if other[2] != one[2]]
        if unlike and house not in blames:
            blames[house] = (house, one, unlike[0])
    return [blames[house] for house in sorted(blames)]
