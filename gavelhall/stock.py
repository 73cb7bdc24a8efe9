"""The stock: what things there are, by their names and kinds."""

from gavelhall.errors import NoName, TooMany


def is_name(thing):
    if not isinstance(thing, str) or not 1 <= len(thing) <= 8:
        return False
    return all(["a" <= sign <= "z" for sign in thing])


class Stock:
    # numbers tells each thing's number by its name, kinds each kind's bundle. Dicts keep the order in which their
    # keys came, so the names stand in the things' order.
    def __init__(self, rows):
        if len(rows) > 6:
            raise TooMany(len(rows))
        self.numbers = {}
        self.kinds = {}
        for number, row in enumerate(rows):
            name = row[0]
            kind = row[1]
            if not is_name(name) or name in self.numbers:
                raise NoName(name)
            if not is_name(kind):
                raise NoName(kind)
            self.numbers[name] = number
            self.kinds[kind] = self.kinds.get(kind, 0) | (1 << number)

    def many(self):
        return len(self.numbers)

    def names(self):
        return list(self.numbers)

    def number_of(self, name):
        if not is_name(name) or name not in self.numbers:
            raise NoName(name)
        return self.numbers[name]

    def kind_of(self, kind):
        if not is_name(kind) or kind not in self.kinds:
            raise NoName(kind)
        return self.kinds[kind]
