"""A desk that keeps forms under names, and promises about them that hold behind each deed."""

from sourceforms.base.helper import is_change, need_number
from sourceforms.base.ratios import TOO_LONG, is_integer
from sourceforms.desk.promises import is_name, is_promise, is_true, names_in
from sourceforms.errors import InvalidNumber, InvalidOperation, InvalidTable, NothingToUndo, Refused, TooMany
from sourceforms.errors import UnknownName
from sourceforms.form.forms import MAX_DEGREE, changed_row, made_form, need_form
from sourceforms.form.layings import laid_row

MAX_KEPT = 12
MAX_PROMISES = 12

MOST_DIGITS = 60


def need_name(value):
    """Refuse what is no name, and no label."""
    if not is_name(value):
        raise InvalidOperation("one to eight letters from a to z are wanted")


def need_known(value, table):
    """Refuse what is no key of a dict from strings."""
    if not isinstance(value, str) or value not in table:
        raise UnknownName(value)


def need_steps(value):
    """Refuse what is no integer from 0 on."""
    if not is_integer(value) or value < 0:
        raise InvalidNumber(value)


def need_short(forms):
    """Refuse forms with entries of more than sixty digits."""
    for form in forms:
        if any([abs(entry) >= TOO_LONG for entry in form.entries]):
            raise TooMany(MOST_DIGITS)


def with_item(table, key, item):
    """A dict with one item more, or another one in its place."""
    found = {name: table[name] for name in table}
    found[key] = item
    return found


def without_item(table, key):
    """A dict with one item less."""
    return {name: table[name] for name in table if name != key}


def is_touched(promise, before, behind):
    """Whether a promise names a form that has changed."""
    return any([name not in behind or before[name] != behind[name] for name in names_in(promise)])


class Desk:
    """A desk. It keeps one state behind each deed, a pair of a dict of forms and a dict of promises.

    The states and their dicts never change, so that desks can share them.
    """

    def __init__(self):
        self._states = (({}, {}),)
        self._place = 0

    @property
    def names(self):
        """The names that have a form, ascending."""
        return tuple(sorted(self._states[self._place][0]))

    @property
    def labels(self):
        """The labels that have a promise, ascending."""
        return tuple(sorted(self._states[self._place][1]))

    @property
    def deeds(self):
        """How many deeds stand."""
        return self._place

    def form(self, name):
        """The form with a name."""
        forms = self._states[self._place][0]
        need_known(name, forms)
        return forms[name]

    def promised(self, label):
        """The promise with a label."""
        promises = self._states[self._place][1]
        need_known(label, promises)
        return promises[label]

    def keep(self, name, form):
        """Keep a form under a name."""
        need_name(name)
        need_form(form)
        return self._kept(name, form)

    def lay(self, name, one, other, times):
        """Keep the laying of two forms under a name."""
        need_name(name)
        forms = self._states[self._place][0]
        need_known(one, forms)
        need_known(other, forms)
        first, second = forms[one], forms[other]
        need_number(times, 0, min(first.degree, second.degree))
        if first.degree + second.degree - 2 * times > MAX_DEGREE:
            raise TooMany(MAX_DEGREE)
        return self._kept(name, made_form(laid_row(first.entries, second.entries, times)))

    def change(self, table):
        """Change all forms by a table."""
        if not is_change(table) or table[0][0] * table[1][1] == table[0][1] * table[1][0]:
            raise InvalidTable("a change with a determinant other than 0 is wanted")
        forms, promises = self._states[self._place]
        changed = {name: made_form(changed_row(forms[name].entries, table)) for name in forms}
        need_short(list(changed.values()))
        return self._done(changed, promises)

    def drop(self, name):
        """Leave a form out."""
        forms, promises = self._states[self._place]
        need_known(name, forms)
        return self._done(without_item(forms, name), promises)

    def promise(self, label, promise):
        """Keep a promise under a label."""
        need_name(label)
        if not is_promise(promise):
            raise InvalidOperation("a promise is wanted")
        forms, promises = self._states[self._place]
        if label in promises:
            raise Refused(("label", label))
        if len(promises) == MAX_PROMISES:
            raise TooMany(MAX_PROMISES)
        for name in names_in(promise):
            need_known(name, forms)
        if not is_true(promise, forms):
            raise Refused(("promise", label))
        return self._done(forms, with_item(promises, label, promise))

    def let_go(self, label):
        """Leave a promise out."""
        forms, promises = self._states[self._place]
        need_known(label, promises)
        return self._done(forms, without_item(promises, label))

    def _kept(self, name, form):
        """Do the deed that keeps a form under a name."""
        forms, promises = self._states[self._place]
        if name not in forms and len(forms) == MAX_KEPT:
            raise TooMany(MAX_KEPT)
        need_short([form])
        return self._done(with_item(forms, name, form), promises)

    def _done(self, forms, promises):
        """Do a deed with what is kept behind it, or refuse it; deeds that were taken back are lost."""
        before = self._states[self._place][0]
        for label in sorted(promises):
            if is_touched(promises[label], before, forms) and not is_true(promises[label], forms):
                raise Refused(("promise", label))
        self._states = self._states[:self._place + 1] + ((forms, promises),)
        self._place = self._place + 1
        return self._place

    def undo(self, *, times=1):
        """Take the last deeds back."""
        need_steps(times)
        if times > self._place:
            raise NothingToUndo(times)
        self._place = self._place - times
        return self._place

    def redo(self, *, times=1):
        """Do deeds again that were taken back."""
        need_steps(times)
        if times > len(self._states) - 1 - self._place:
            raise NothingToUndo(times)
        self._place = self._place + times
        return self._place

    def during(self, call):
        """What a call with the desk returns or raises; behind it everything is as it was ahead."""
        states, place = self._states, self._place
        try:
            return call(self)
        finally:
            self._states, self._place = states, place

    def twin(self):
        """An equal desk with the same deeds that goes on by itself."""
        made = Desk()
        made._states = self._states
        made._place = self._place
        return made

    def __contains__(self, value):
        return isinstance(value, str) and value in self._states[self._place][0]

    def __eq__(self, other):
        if not isinstance(other, Desk):
            return False
        return self._states[self._place] == other._states[other._place]

    def __len__(self):
        return len(self._states[self._place][0])

    def __str__(self):
        forms, promises = self._states[self._place]
        return f"desk of {len(forms)} forms, {len(promises)} promises"
