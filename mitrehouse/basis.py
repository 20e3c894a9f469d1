"""Elimination: rows are put in one by one, and reduced rows are kept of them."""

from mitrehouse.ratios import ONE, ZERO, opposite, over, plus, times


def mix(sums, factor, more):
    """Adds factor times the ratios of a dict to those of another one, in which none is kept that is 0."""
    for key, one in more.items():
        summed = plus(sums.get(key, ZERO), times(factor, one))
        if summed[0]:
            sums[key] = summed
        else:
            sums.pop(key, None)


def scaled(ratios, factor):
    """Returns the dict of factor times the ratios of a dict; factor is not 0."""
    return {key: times(factor, one) for key, one in ratios.items()}


class Line:
    """A row as a dict, and the dict of the factors that make it of the rows that were put in."""

    def __init__(self, row, factors):
        self.terms = {unknown: one for unknown, one in row[0]}
        self.constant = row[1]
        self.factors = {index: one for index, one in factors.items()}

    def blend(self, factor, other):
        """Adds factor times another line."""
        mix(self.terms, factor, other.terms)
        self.constant = plus(self.constant, times(factor, other.constant))
        mix(self.factors, factor, other.factors)

    def scale(self, factor):
        """Multiplies the line by a factor that is not 0."""
        self.terms = scaled(self.terms, factor)
        self.constant = times(factor, self.constant)
        self.factors = scaled(self.factors, factor)


class Basis:
    """The lines of the reduced rows by their leads, and a line that is a clash, or None.

    Strings are ascending as unknowns are, so the first unknown of a line is its least one.
    """

    def __init__(self):
        self.leads = {}
        self.clash = None

    def rest(self, row, factors):
        """Returns the line of a row, less what the lines of the basis make of it."""
        line = Line(row, factors)
        for lead, factor in row[0]:
            if lead in self.leads:
                line.blend(opposite(factor), self.leads[lead])
        if self.clash is not None:
            line.blend(opposite(line.constant), self.clash)
        return line

    def has(self, row):
        """Returns True if a row follows from those that were put in."""
        line = self.rest(row, {})
        return not line.terms and line.constant == ZERO

    def put(self, row, factors):
        """Puts in a row, which is told to be made by factors, if it does not follow from those before."""
        line = self.rest(row, factors)
        if line.terms:
            self.keep(line)
        elif line.constant != ZERO:
            line.scale(over(ONE, line.constant))
            self.clash = line

    def keep(self, line):
        """Keeps a line under its lead, which then stands in no other line."""
        lead = min(line.terms)
        line.scale(over(ONE, line.terms[lead]))
        for other in self.leads.values():
            if lead in other.terms:
                other.blend(opposite(other.terms[lead]), line)
        self.leads[lead] = line

    def reduced(self):
        """Returns the list of the reduced rows, leads ascending."""
        return [(tuple(sorted(self.leads[lead].terms.items())), self.leads[lead].constant)
                for lead in sorted(self.leads)]


def basis_of(rows):
    """Returns the basis of a list of rows, with the factors of its lines."""
    basis = Basis()
    for index, row in enumerate(rows):
        basis.put(row, {index: ONE})
    return basis


def plain_basis(rows):
    """Returns the basis of a list of rows, without factors."""
    basis = Basis()
    for row in rows:
        basis.put(row, {})
    return basis
