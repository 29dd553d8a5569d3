"""Words, addresses and days: what they are, and how addresses are taken apart."""

LETTERS = "abcdefghijklmnopqrstuvwxyz"
WORD_LETTERS = 12
PLACE_WORDS = 4
LAST_DAY = 1000000


def is_number_to(value, highest):
    """Whether any value is an integer from 0 to the highest one."""
    # For Python a bool is an int, for the document it is no integer.
    return isinstance(value, int) and not isinstance(value, bool) and 0 <= value <= highest


def is_day(value):
    """Whether any value is a day."""
    return is_number_to(value, LAST_DAY)


def is_word(value):
    """Whether any value is a word."""
    if not isinstance(value, str) or not 1 <= len(value) <= WORD_LETTERS:
        return False
    # Other alphabets have lower-case letters, too: hence isascii.
    return value.isascii() and value.isalpha() and value.islower()


def is_address(value):
    """Whether any value is an address, of however many words."""
    if not isinstance(value, tuple):
        return False
    for word in value:
        if not is_word(word):
            return False
    return True


def is_place(value):
    """Whether any value is an address that is short enough for a rule, a page or a section."""
    return isinstance(value, tuple) and len(value) <= PLACE_WORDS and is_address(value)


def begins(address, beginning):
    """Whether an address begins with another one."""
    return tuple(address[:len(beginning)]) == tuple(beginning)


def rest_of(address, beginning):
    """The words of an address behind its beginning."""
    # The slice of a whole tuple is that tuple itself; by way of a list it is a new one.
    return tuple(list(address[len(beginning):]))


def address_key(address):
    """What addresses are sorted by: fewer words first, then as tuples."""
    return (len(address), tuple(address))


def beginnings(address):
    """The beginnings of an address, from () to itself."""
    return [tuple(address[:size]) for size in range(len(address) + 1)]


def strange_word(words):
    """The least word that is none of some words."""
    taken = set(words)
    word = LETTERS[0]
    while word in taken:
        word = _next_word(word)
    return word


def _next_word(word):
    """The word that Python sorts right behind another one."""
    if len(word) < WORD_LETTERS:
        return word + LETTERS[0]
    # A word of full length has no longer ones behind it, and a last z cannot be raised.
    kept = word.rstrip(LETTERS[-1])
    return kept[:-1] + LETTERS[LETTERS.index(kept[-1]) + 1]
