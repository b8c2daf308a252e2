"""Selectors made ready to be asked letter by letter."""

RELATIONS = ("child", "below", "next", "behind")


def is_of_simple(simple, name, classes):
    """Whether an element with this name and these classes is of a simple, but for its place."""
    wanted, has, lacks, _ = simple
    if wanted is not None and wanted != name:
        return False
    return all([klass in classes for klass in has]) and not any([klass in classes for klass in lacks])


def is_in_place(place, number):
    """Whether an element with this number is at the place that a simple asks."""
    if place is None:
        return True
    many, rest = place
    return number == rest if many == 0 else number % many == rest


class Chooser:
    """A selector (a right one) whose steps are bits, the innermost the lowest.

    A HELD is a stand in bits: (own, parent, above, elders, rests), parent None at the root.
    """

    def __init__(self, selector):
        self.simples = [simple for _, simple in selector]
        self.last = 1 << (len(selector) - 1)
        self.whole = 2 * self.last - 1
        self.child = self.steps_by(selector, "child")
        self.below = self.steps_by(selector, "below")
        self.beside = self.steps_by(selector, "next")
        self.behind = self.steps_by(selector, "behind")
        self.places = [(1 << k, simple[3]) for k, simple in enumerate(self.simples) if simple[3] is not None]

    def steps_by(self, selector, relation):
        """The bits of the steps that are to the ones ahead of them what a relation says."""
        bits = 0
        for k, step in enumerate(selector):
            if step[0] == relation:
                bits |= 1 << k
        return bits

    def bits_of(self, name, classes):
        """The bits of the steps of whose simples, but for their places, a letter is."""
        bits = 0
        for k, simple in enumerate(self.simples):
            if is_of_simple(simple, name, classes):
                bits |= 1 << k
        return bits

    def first_rests(self):
        """The rests of the number 1."""
        return tuple([1 % many if many > 0 else 1 for _, (many, _) in self.places])

    def next_rests(self, rests):
        """The rests of the number that follows the one with these."""
        after = []
        for (_, (many, rest)), held in zip(self.places, rests):
            after.append((held + 1) % many if many > 0 else min(held + 1, rest + 1))
        return tuple(after)

    def bits_in_place(self, rests):
        """The bits of the steps that ask no place, or the one with these rests."""
        bits = self.whole
        for (bit, place), held in zip(self.places, rests):
            if held != place[1]:
                bits -= bit
        return bits

    def ahead(self, held, step):
        """What is behind any letter with this step: a held whose own are all steps that could take its element."""
        if step == "root":
            parent, above, elders, elder = None, 0, 0, 0
        elif step == "first":
            parent, above, elders, elder = held[0], held[2] | held[0], 0, 0
        else:
            parent, above, elders, elder = held[1], held[2], held[3] | held[0], held[0]
        rests = self.next_rests(held[4]) if step == "next" else self.first_rests()
        outer = (parent or 0) & self.child | above & self.below | elder & self.beside | elders & self.behind
        own = (self.last | outer >> 1) & self.bits_in_place(rests)
        return (own, parent, above, elders, rests)

    def behind_bits(self, held, step, bits):
        """The held behind a letter with this step whose bits, but for places, are these (None: behind none)."""
        own, parent, above, elders, rests = self.ahead(held, step)
        return (own & bits, parent, above, elders, rests)

    def behind_letter(self, held, letter):
        """The held behind one letter more (None: behind none)."""
        step, name, classes = letter
        return self.behind_bits(held, step, self.bits_of(name, classes))

    def bits_by_letter(self, letters):
        """The bits of each of the letters, worked out once for those that are alike."""
        known = {}
        bits = []
        for _, name, classes in letters:
            kind = (name, tuple(classes))
            if kind not in known:
                known[kind] = self.bits_of(name, classes)
            bits.append(known[kind])
        return bits

    def helds_along(self, spine):
        """The helds behind the letters of a spine, one after the other."""
        helds = []
        held = None
        for letter, bits in zip(spine, self.bits_by_letter(spine)):
            held = self.behind_bits(held, letter[0], bits)
            helds.append(held)
        return helds

    def helds_in(self, spots):
        """The helds behind all spots of a tree."""
        helds = []
        all_bits = self.bits_by_letter([spot.letter() for spot in spots])
        for spot, bits in zip(spots, all_bits):
            source = None if spot.source is None else helds[spot.source]
            helds.append(self.behind_bits(source, spot.step, bits))
        return helds
