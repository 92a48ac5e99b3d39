"""Plans as lines of text."""

from wheelwritten.boardlines import integer_in
from wheelwritten.errors import InvalidRow, InvalidText
from wheelwritten.plankinds import is_pass, is_plan, summed_in
from wheelwritten.usable import need


def _pass_line(single):
    """The line of the pass."""
    if single[0] == "sum":
        _, dial, factor = single
        return f"sum {dial} x{factor}"
    terms = [f"{one}-{two} x{factor}" for one, two, factor in single[1]]
    if terms == []:
        return "twist -"
    return "twist " + ", ".join(terms)


def plan_lines(numbering, plan):
    """The tuple of the lines of all passes."""
    need(is_plan(numbering, plan), "plan")
    return tuple([_pass_line(single) for single in plan])


def _factor_in(word):
    """The number that word tells behind an x, None if it tells none."""
    if not word.startswith("x"):
        return None
    return integer_in(word[1:])


def _dials_in(word):
    """The pair of numbers that word tells with a - between them, None if it tells none."""
    parts = [integer_in(part) for part in word.split("-")]
    if len(parts) != 2 or None in parts:
        return None
    return tuple(parts)


def _word_at(words, at):
    """The word there; where none is left, one that no line has."""
    if at < len(words):
        return words[at]
    return ""


def _read_sum(words, line):
    """The sum that the words tell, be it a pass or not, else InvalidText."""
    dial = integer_in(_word_at(words, 1))
    if dial is None:
        raise InvalidText(line, 1)
    factor = _factor_in(_word_at(words, 2))
    if factor is None:
        raise InvalidText(line, 2)
    if len(words) > 3:
        raise InvalidText(line, 3)
    return "sum", dial, factor


def _read_terms(words, line):
    """The terms that the words tell, else InvalidText."""
    terms = []
    at = 1
    more = True
    while more:
        dials = _dials_in(_word_at(words, at))
        if dials is None:
            raise InvalidText(line, at)
        word = _word_at(words, at + 1)
        more = word.endswith(",")
        factor = _factor_in(word.removesuffix(","))
        if factor is None:
            raise InvalidText(line, at + 1)
        terms.append(dials + (factor,))
        at += 2
    if len(words) > at:
        raise InvalidText(line, at)
    return tuple(terms)


def _read_pass(text, line):
    """The pass, or what has only its form, that the text tells, else InvalidText."""
    words = text.split(" ")
    if words[0] == "sum":
        return _read_sum(words, line)
    if words[0] != "twist":
        raise InvalidText(line, 0)
    if _word_at(words, 1) != "-":
        return "twist", _read_terms(words, line)
    if len(words) > 2:
        raise InvalidText(line, 2)
    return "twist", ()


def read_plan(numbering, lines):
    """The plan with these lines, else InvalidText for the first wrong word, or InvalidRow for the first wrong line."""
    need(isinstance(lines, tuple) and all([isinstance(text, str) for text in lines]), "lines")
    passes = tuple([_read_pass(text, line) for line, text in enumerate(lines)])
    for line, single in enumerate(passes):
        again = single[0] == "sum" and single[1] in summed_in(passes[:line])
        if again or not is_pass(numbering, single):
            raise InvalidRow(line)
    if len(summed_in(passes)) < len(numbering[1]):
        raise InvalidRow(len(passes))
    return passes
