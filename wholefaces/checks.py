"""The one check that stands at the beginning of the functions: is a parameter as stated?"""

from wholefaces.errors import NotUsable


def demand(fits, word):
    """Raises NotUsable for the parameter called word, unless it fits."""
    if not fits:
        raise NotUsable(word, -1)
