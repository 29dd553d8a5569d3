"""Ends as kinds and fronts: what an answer says apart from the words that are still to come."""


def kind_and_front(answer):
    """An answer as a kind and the words that it hands on."""
    if answer[0] == "section":
        return (("section", answer[1]), answer[2])
    if answer[0] == "to":
        return (("to",), answer[1])
    return (answer, ())


def front_behind(kind, front, words):
    """What the front of an end becomes if more words are behind it."""
    if kind[0] == "section":
        return (*front, *words)
    return front


def end_of(kind, front):
    """The end that has a kind and a front."""
    if kind[0] == "section":
        return ("section", kind[1], front)
    return tuple(list(kind))
