"""The checker of right plans."""

from wheelwritten.crossing import cross_table
from wheelwritten.errors import InvalidPaper
from wheelwritten.plankinds import is_pass, summed_in, twists_in


def _check_sums(table, thing):
    """InvalidPaper unless each dial has exactly one sum, by its cross product with itself."""
    summed = summed_in(thing)
    for dial in range(len(table)):
        if summed.count(dial) != 1:
            raise InvalidPaper("sums", dial)
    factors = {single[1]: single[2] for single in thing if single[0] == "sum"}
    for dial in range(len(table)):
        if factors[dial] != table[dial][dial]:
            raise InvalidPaper("factor", dial)


def _add_terms(tables, done, terms):
    """Add the factors up in the table for the figures that their terms take: of d and c, of d alone, of c alone."""
    crossed, ahead, behind = tables
    for one, two, factor in terms:
        if one in done and two in done:
            behind[one][two] += factor
        elif one in done:
            crossed[two][one] += factor
        elif two in done:
            crossed[one][two] += factor
        else:
            ahead[one][two] += factor


def _factor_tables(size, thing):
    """The tables of the factors of all terms with d and c, with d alone, with c alone at two dials."""
    tables = [[[0] * size for _ in range(size)] for _ in range(3)]
    done = []
    for single in thing:
        if single[0] == "sum":
            done.append(single[1])
        else:
            _add_terms(tables, done, single[1])
    return tables


def _check_crossed(wheel, table, crossed):
    """InvalidPaper unless the factors with d and c add up to the cross products."""
    size = len(table)
    for one in range(size):
        for two in range(size):
            if two != one and (crossed[one][two] - table[one][two]) % wheel != 0:
                raise InvalidPaper("cross", (one, two))


def _check_nothing(wheel, factors, word):
    """InvalidPaper with the word unless all these factors add up to 0."""
    for one, row in enumerate(factors):
        for two, factor in enumerate(row):
            if factor % wheel != 0:
                raise InvalidPaper(word, (one, two))


def lets_plan(numbering, other, thing):
    """How many twists the right plan thing has. Else InvalidPaper."""
    table = cross_table(numbering, other)
    if not isinstance(thing, tuple):
        raise InvalidPaper("shape", -1)
    for k, single in enumerate(thing):
        if not is_pass(numbering, single):
            raise InvalidPaper("pass", k)
    _check_sums(table, thing)
    crossed, ahead, behind = _factor_tables(len(table), thing)
    _check_crossed(numbering[0], table, crossed)
    _check_nothing(numbering[0], ahead, "ahead")
    _check_nothing(numbering[0], behind, "behind")
    return twists_in(thing)


def is_right_plan(numbering, other, thing):
    """Whether thing is a right plan for the two numberings."""
    try:
        lets_plan(numbering, other, thing)
    except InvalidPaper:
        return False
    return True
