"""Answers to questions about named deals, and their papers."""

from ringstairs.basics import is_pair
from ringstairs.fill.fillings import MAX_SQUARES, is_filling, is_shortage, shortage, some_filling
from ringstairs.heap.heaps import box
from ringstairs.link.classes import class_at, is_class, is_lendings, lendings
from ringstairs.rich.richness import filling_of, is_filling_of, is_taking, taking


def sides_asked(chain, question):
    """The pair of the columns and the rows, perhaps fewer than none, of the box that a question is about."""
    _, degree, k = question
    return (k + 1, len(chain) - degree + k)


def can_ask(chain, deals, question):
    """Whether what has the form of a question is one about a chain and named deals."""
    word, first, second = question
    if word == "alike":
        return first in deals and second in deals
    if word == "rich":
        return first in deals
    columns, rows = sides_asked(chain, question)
    return columns * rows <= MAX_SQUARES


def classes_asked(chain, deals, question):
    """The pair of the classes of the two deals that a question is about."""
    _, one, other = question
    return (class_at(chain, deals[one]), class_at(chain, deals[other]))


def box_asked(chain, question):
    """The box that a question is about."""
    columns, rows = sides_asked(chain, question)
    return box(columns, rows)


def paper_for(chain, deals, question):
    """A paper for the verdict True, None if there is none."""
    word, first, second = question
    if word == "alike":
        return lendings(chain, deals[first], deals[second])
    if word == "rich":
        return filling_of(chain, deals[first], second)
    return some_filling(chain, box_asked(chain, question))


def paper_against(chain, deals, question):
    """A paper for the verdict False of a question for which there is none for True."""
    word, first, second = question
    if word == "alike":
        return classes_asked(chain, deals, question)
    if word == "rich":
        return taking(chain, deals[first], second)
    return shortage(chain, box_asked(chain, question))


def decided(chain, deals, question):
    """The pair (verdict, paper) of what surely is a question."""
    paper = paper_for(chain, deals, question)
    if paper is not None:
        return (True, paper)
    return (False, paper_against(chain, deals, question))


def shows(chain, deals, question, value):
    """Whether the value is a paper for the verdict True."""
    word, first, second = question
    if word == "alike":
        return is_lendings(chain, deals[first], deals[second], value)
    if word == "rich":
        return is_filling_of(chain, deals[first], second, value)
    return is_filling(chain, box_asked(chain, question), value)


def shows_not(chain, deals, question, value):
    """Whether the value is a paper for the verdict False."""
    word, first, second = question
    if word == "alike":
        one, other = classes_asked(chain, deals, question)
        if one == other or not is_pair(value):
            return False
        return is_class(chain, value[0]) and is_class(chain, value[1]) and value == (one, other)
    if word == "rich":
        return is_taking(chain, deals[first], second, value)
    return is_shortage(chain, box_asked(chain, question), value)


def supports(chain, deals, question, verdict, value):
    """Whether the value is a paper for the verdict."""
    if verdict:
        return shows(chain, deals, question, value)
    return shows_not(chain, deals, question, value)
