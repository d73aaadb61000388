"""Things in classes of those that are alike, when what is alike must lead to what is alike."""


class Partition:
    """The greatest classes, within the first ones, in which all things of a class have the same rows.

    The rows of a thing are pairs (label, things); two rows are the same if their labels are, and their things, one by
    one, are in the same classes. How often a thing has a row does not matter. Labels ascend.
    """

    def __init__(self, rows, first_classes):
        self.rows = rows
        numbers = {}
        self.classes = [numbers.setdefault(own, len(numbers)) for own in first_classes]
        # For each class the number of its things, and what their rows are.
        self.sizes = {}
        for own in self.classes:
            self.sizes[own] = self.sizes.get(own, 0) + 1
        self.looks = {own: None for own in self.sizes}
        # For each thing those that have it in their rows.
        self.before = [{} for _ in rows]
        for thing, own_rows in enumerate(rows):
            for _, targets in own_rows:
                for target in targets:
                    self.before[target][thing] = True
        touched = list(range(len(rows)))
        while touched:
            touched = self.divide(touched)

    def look_of(self, thing):
        """What the rows of a thing are, told by classes."""
        found = {}
        for label, targets in self.rows[thing]:
            found[(label, tuple([self.classes[target] for target in targets]))] = True
        return tuple(sorted(found))

    def divide(self, touched):
        """Divides the classes of the things whose rows may have changed; the list of those that this changes again."""
        looks = [self.look_of(thing) for thing in touched]
        parts = {}
        for thing, look in zip(touched, looks):
            parts.setdefault(self.classes[thing], {}).setdefault(look, []).append(thing)
        again = {}
        for own in parts:
            for thing in self.part_class(own, parts[own]):
                again.update(self.before[thing])
        return list(again)

    def part_class(self, own, parts):
        """Makes each part of a class that does not look like the rest a class of its own; the list of their things."""
        many = sum([len(parts[look]) for look in parts])
        if many == self.sizes[own]:
            # Nothing else is in the class: so the greatest part stays, and as few things as possible change.
            self.looks[own] = max(parts, key=lambda look: len(parts[look]))
        changed = []
        for look in parts:
            if look != self.looks[own]:
                self.add_class(look, parts[look])
                self.sizes[own] -= len(parts[look])
                changed.extend(parts[look])
        return changed

    def add_class(self, look, things):
        """Makes things that look so a new class."""
        number = len(self.sizes)
        self.sizes[number] = len(things)
        self.looks[number] = look
        for thing in things:
            self.classes[thing] = number
