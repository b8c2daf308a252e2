"""Ways between the lines of a table: greatest sums of needs of cells side by side."""


class Ways:
    """For all pairs of lines the greatest sum of needs of cells between them, no two in one column."""

    def __init__(self, many, cells):
        self.cells = cells
        self.ending = [[] for _ in range(many + 1)]
        for number, cell in enumerate(cells):
            self.ending[cell[1] + 1].append(number)
        self.sums = [self.sums_from(line) for line in range(many + 1)]

    def sums_from(self, start):
        """The sums from one line up to each one, those ahead of it being 0."""
        sums = [0] * (start + 1)
        for line in range(start + 1, len(self.ending)):
            best = sums[line - 1]
            for number in self.ending[line]:
                first, _, need, _ = self.cells[number]
                if first >= start:
                    best = max(best, sums[first] + need)
            sums.append(best)
        return sums

    def way(self, one, other):
        return self.sums[one][other]

    def numbers_along(self, line):
        """The numbers of cells side by side, by columns, that need as much as there is up to a line."""
        sums = self.sums[0]
        numbers = []
        while sums[line] > 0:
            if sums[line] == sums[line - 1]:
                line -= 1
            else:
                met = [number for number in self.ending[line] if self.is_met(number, line)]
                numbers.append(met[0])
                line = self.cells[met[0]][0]
        return numbers[::-1]

    def is_met(self, number, line):
        """Whether a cell that ends at a line is the last one of those that need as much as there is up to it."""
        first, _, need, _ = self.cells[number]
        return self.sums[0][first] + need == self.sums[0][line]
