"""Workshops: rows under names, and demands that always hold of them."""

from mastrows.complexes import check_complex
from mastrows.demands import check_demand, check_name, is_met, names_in
from mastrows.errors import Broken, InUse, InvalidIndex, NothingToUndo, UnknownName
from mastrows.fracs import is_whole
from mastrows.rows import check_row


class Trial:
    """A `with` statement over it puts a workshop back as it was if its block ends with an exception."""

    def __init__(self, shop):
        self._shop = shop
        self._rows = {}
        self._demands = ()
        self._past = ()

    def __eq__(self, other):
        return self is other

    def __enter__(self):
        shop = self._shop
        self._rows = shop._rows
        self._demands = shop._demands
        self._past = shop._past
        return shop

    def __exit__(self, kind, value, trace):
        shop = self._shop
        if kind is not None:
            shop._rows = self._rows
            shop._demands = self._demands
            shop._past = self._past


class Workshop:
    """Rows under names, and demands that always hold of them.

    What is kept is never changed in its place: each change puts new things
    there. So all that was kept before stays as it was, and can be put back.
    """

    def __init__(self):
        self._rows = {}
        self._demands = ()
        self._past = ()

    def __eq__(self, other):
        return self is other

    def __bool__(self):
        return True

    def __len__(self):
        return len(self._past)

    def __contains__(self, name):
        return isinstance(name, str) and name in self._rows

    @property
    def names(self):
        """All names, ascending."""
        return tuple(sorted(list(self._rows)))

    @property
    def demands(self):
        """All demands, as they were passed."""
        return self._demands

    def put(self, name, row):
        """Put a row under a name, or in the place of the one that is there."""
        check_name(name)
        check_row(row)
        self._put_checked(name, row)

    def forget(self, name):
        """Take away a name and its row."""
        self._check_known(name)
        for index, demand in enumerate(self._demands):
            if name in names_in(demand):
                raise InUse(index)
        self._change({known: row for known, row in self._rows.items() if known != name}, self._demands)

    def feed(self, name, index, number):
        """Give one feed of a row another complex."""
        row = self.named(name)
        if not is_whole(index) or not 0 <= index < len(row):
            raise InvalidIndex(index)
        check_complex(number)
        feeds = row[:index] + (number,) + row[index + 1:]
        check_row(feeds)
        self._put_checked(name, feeds)

    def demand(self, demand):
        """Demand something of what is kept from now on."""
        check_demand(demand)
        for name in names_in(demand):
            self._check_known(name)
        if not is_met(demand, self._rows):
            raise Broken(len(self._demands))
        self._change(self._rows, self._demands + (demand,))

    def lift(self, index):
        """Take a demand away."""
        if not is_whole(index) or not 0 <= index < len(self._demands):
            raise InvalidIndex(index)
        self._change(self._rows, self._demands[:index] + self._demands[index + 1:])

    def named(self, name):
        """The row under the name."""
        self._check_known(name)
        return self._rows[name]

    def undo(self):
        """Take back the last change."""
        if not self._past:
            raise NothingToUndo()
        self._rows, self._demands = self._past[-1]
        self._past = self._past[:-1]

    def trial(self):
        """What a `with` statement tries changes by."""
        return Trial(self)

    def tried(self, action):
        """What the function returns of the workshop; if it raises, nothing has changed."""
        with self.trial() as shop:
            return action(shop)

    def _check_known(self, name):
        if name not in self:
            raise UnknownName(name)

    def _put_checked(self, name, row):
        rows = {**self._rows, name: row}
        for index, demand in enumerate(self._demands):
            if name in names_in(demand) and not is_met(demand, rows):
                raise Broken(index)
        self._change(rows, self._demands)

    def _change(self, rows, demands):
        self._past = self._past + ((self._rows, self._demands),)
        self._rows = rows
        self._demands = demands
