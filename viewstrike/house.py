"""Houses: a store with answers that must stay and answers that must not come back, and the deeds done to it."""

from viewstrike.claimforms import MOST_KEPT, MOST_ROWS_IN_ALL, MOST_WISHED
from viewstrike.claims import decide
from viewstrike.deciding import sizes_of
from viewstrike.errors import (
    AlreadyThere, AnswerBarred, AnswerLost, CannotTake, InvalidAnswer, InvalidRow, InvalidStrike, NoAnswer, NothingDone,
    NotThere, Refused, RuleBroken, TableFull, TooMany,
)
from viewstrike.forms import is_number_of
from viewstrike.least import best_strike, least_loss
from viewstrike.queries import require_query
from viewstrike.rules import require_rules
from viewstrike.singles import single_losses
from viewstrike.stores import MOST_ROWS, first_breaking_row, has_answer_form, is_row, is_shown, view_of
from viewstrike.strikes import require_strike, without_rows

MOST_DEEDS = 60
MOST_BARRED = 8
MOST_ROWS_FOR_LOSSES = 40
PARTS_OF_DEEDS = {"put": 3, "drop": 3, "strike": 2, "keep": 2, "release": 2, "bar": 2, "lift": 2}


def is_deed(value):
    """Return whether value is a tuple that begins with the word of a deed and has as many parts as the deed."""
    if type(value) is not tuple or len(value) == 0 or type(value[0]) is not str or value[0] not in PARTS_OF_DEEDS:
        return False
    return len(value) == PARTS_OF_DEEDS[value[0]]


def are_deeds(value):
    """Return whether value is a tuple of deeds that a house does at once."""
    return type(value) is tuple and len(value) <= MOST_DEEDS and all([is_deed(deed) for deed in value])


def with_table(store, t, table):
    """Return the store with another table t."""
    return store[:t] + (table,) + store[t + 1:]


def without(some, answer):
    """Return the tuple of some answers but this one."""
    return tuple([other for other in some if other != answer])


def rows_in(store):
    """Return the number of rows in all tables together."""
    return sum([len(table) for table in store])


class House:
    """A store that keeps rules, beside kept and barred answers; a list of deeds determines all of this."""

    def __init__(self, query, rules):
        self._query = require_query(query)
        self._rules = require_rules(query, rules)
        self._deeds = []
        # What each deed left, beginning with what was there before the first one: store, kept and barred answers.
        self._states = [(tuple([() for _ in query[1]]), (), ())]

    def __len__(self):
        return len(self._deeds)

    def __eq__(self, other):
        return (
            isinstance(other, House)
            and self._query == other._query
            and self._rules == other._rules
            and self._deeds == other._deeds
        )

    def __iadd__(self, other):
        if not are_deeds(other):
            raise Refused(-1, None)
        before = len(self._deeds)
        for index, deed in enumerate(other):
            reason = self._reason_against(deed)
            if reason is not None:
                self._go_back(before)
                raise Refused(index, reason)
        return self

    def put(self, t, row):
        """Put the row into table t."""
        store, kept, barred = self._states[-1]
        self._require_row(t, row)
        if row in store[t]:
            raise AlreadyThere()
        if len(store[t]) >= MOST_ROWS:
            raise TableFull(t)
        further = with_table(store, t, tuple(sorted(store[t] + (row,))))
        for number, rule in enumerate(self._rules):
            if first_breaking_row(self._query, further, rule) is not None:
                raise RuleBroken(number)
        # An answer that comes with the row has a match with it.
        beside = with_table(store, t, (row,))
        for index, answer in enumerate(barred):
            if is_shown(self._query, beside, answer):
                raise AnswerBarred(index)
        self._add_deed(("put", t, row), further, kept, barred)

    def drop(self, t, row):
        """Take the row out of table t."""
        store, kept, barred = self._states[-1]
        self._require_row(t, row)
        if row not in store[t]:
            raise NotThere()
        further = with_table(store, t, tuple([other for other in store[t] if other != row]))
        self._require_kept(further)
        self._add_deed(("drop", t, row), further, kept, barred)

    def strike(self, strike):
        """Strike the rows."""
        store, kept, barred = self._states[-1]
        further = without_rows(store, require_strike(store, strike))
        self._require_kept(further)
        self._add_deed(("strike", strike), further, kept, barred)

    def keep(self, answer):
        """Keep the answer: it must stay."""
        store, kept, barred = self._states[-1]
        self._require_answer(answer)
        if not is_shown(self._query, store, answer):
            raise NotThere()
        if answer in kept:
            raise AlreadyThere()
        if len(kept) >= MOST_KEPT:
            raise TooMany(len(kept))
        self._add_deed(("keep", answer), store, kept + (answer,), barred)

    def release(self, answer):
        """Keep the answer no longer."""
        store, kept, barred = self._states[-1]
        self._require_answer(answer)
        if answer not in kept:
            raise NotThere()
        self._add_deed(("release", answer), store, without(kept, answer), barred)

    def bar(self, answer):
        """Bar the answer: it must not come."""
        store, kept, barred = self._states[-1]
        self._require_answer(answer)
        if answer in barred or is_shown(self._query, store, answer):
            raise AlreadyThere()
        if len(barred) >= MOST_BARRED:
            raise TooMany(len(barred))
        self._add_deed(("bar", answer), store, kept, barred + (answer,))

    def lift(self, answer):
        """Bar the answer no longer."""
        store, kept, barred = self._states[-1]
        self._require_answer(answer)
        if answer not in barred:
            raise NotThere()
        self._add_deed(("lift", answer), store, kept, without(barred, answer))

    def store(self):
        """Return the store."""
        return self._states[-1][0]

    def view(self):
        """Return the view."""
        return view_of(self._query, self.store())

    def kept(self):
        """Return the tuple of the kept answers, in the order in which they were kept."""
        return self._states[-1][1]

    def barred(self):
        """Return the tuple of the barred answers, in the order in which they were barred."""
        return self._states[-1][2]

    def deeds(self):
        """Return the tuple of all deeds done."""
        return tuple(self._deeds)

    def losses(self, answer):
        """Return the losses of the single strikes for the answer."""
        self._require_few_rows(MOST_ROWS_FOR_LOSSES)
        self._require_shown(answer)
        return single_losses(self._query, self.store(), answer)

    def least(self, wished):
        """Return the least loss for the wished answers beside the kept ones, or None."""
        self._require_wished(wished)
        return least_loss(self._query, self.store(), wished, kept=tuple(sorted(self.kept())))

    def paper_of(self, wished):
        """Return the certificate for the claim that the least loss is what least tells."""
        n = self.least(wished)
        return decide(("least", self._query, self.store(), wished, tuple(sorted(self.kept())), n))

    def plan(self, wished):
        """Return a best strike for the wished answers beside the kept ones."""
        self._require_wished(wished)
        told = best_strike(self._query, self.store(), wished, kept=tuple(sorted(self.kept())))
        if told is None:
            raise CannotTake()
        return told

    def sizes(self, answer):
        """Return the sizes of the least lots for the answer and each row."""
        self._require_few_rows(MOST_ROWS_IN_ALL)
        self._require_shown(answer)
        return sizes_of(self._query, self.store(), answer)

    def undo(self):
        """Undo the last deed."""
        if len(self._deeds) == 0:
            raise NothingDone()
        self._go_back(len(self._deeds) - 1)

    def twin(self):
        """Return a house with the same query, rules and deeds."""
        other = House(self._query, self._rules)
        other._deeds = list(self._deeds)
        other._states = list(self._states)
        return other

    def _add_deed(self, deed, store, kept, barred):
        """Note a deed and what it left."""
        self._deeds.append(deed)
        self._states.append((store, kept, barred))

    def _go_back(self, many):
        """Undo all deeds but so many."""
        del self._deeds[many:]
        del self._states[many + 1:]

    def _reason_against(self, deed):
        """Do the deed and return None, or return the name of the error that it raises."""
        try:
            self._do(deed)
        except InvalidRow:
            return "InvalidRow"
        except InvalidStrike:
            return "InvalidStrike"
        except InvalidAnswer:
            return "InvalidAnswer"
        except AlreadyThere:
            return "AlreadyThere"
        except NotThere:
            return "NotThere"
        except TableFull:
            return "TableFull"
        except RuleBroken:
            return "RuleBroken"
        except AnswerBarred:
            return "AnswerBarred"
        except AnswerLost:
            return "AnswerLost"
        except TooMany:
            return "TooMany"
        return None

    def _do(self, deed):
        """Do a deed that is written as deeds returns it."""
        word = deed[0]
        if word == "put":
            self.put(deed[1], deed[2])
        elif word == "drop":
            self.drop(deed[1], deed[2])
        elif word == "strike":
            self.strike(deed[1])
        elif word == "keep":
            self.keep(deed[1])
        elif word == "release":
            self.release(deed[1])
        elif word == "bar":
            self.bar(deed[1])
        else:
            self.lift(deed[1])

    def _require_row(self, t, row):
        """Raise InvalidRow unless row is a row of table t."""
        if not is_number_of(t, len(self._query[1])) or not is_row(self._query, t, row):
            raise InvalidRow()

    def _require_kept(self, store):
        """Raise AnswerLost if a kept answer is not in this store's view."""
        for index, answer in enumerate(self.kept()):
            if not is_shown(self._query, store, answer):
                raise AnswerLost(index)

    def _require_answer(self, answer):
        """Raise InvalidAnswer unless it has the form of an answer."""
        if not has_answer_form(self._query, answer):
            raise InvalidAnswer()

    def _require_few_rows(self, most):
        """Raise TooMany if there are more rows than that in all tables together."""
        many = rows_in(self.store())
        if many > most:
            raise TooMany(many)

    def _require_shown(self, answer):
        """Raise NoAnswer unless it is an answer of the view."""
        if not has_answer_form(self._query, answer) or not is_shown(self._query, self.store(), answer):
            raise NoAnswer(0)

    def _require_wished(self, wished):
        """Raise TooMany if there are too many rows, and NoAnswer unless these are answers that can be wished."""
        self._require_few_rows(MOST_ROWS_IN_ALL)
        if type(wished) is not tuple or not 1 <= len(wished) <= MOST_WISHED:
            raise NoAnswer(None)
        for index, answer in enumerate(wished):
            self._require_wishable(index, answer)
            if index > 0 and answer <= wished[index - 1]:
                raise NoAnswer(index)

    def _require_wishable(self, index, answer):
        """Raise NoAnswer with the index unless it is an answer of the view that is not kept."""
        if not has_answer_form(self._query, answer) or answer in self.kept():
            raise NoAnswer(index)
        if not is_shown(self._query, self.store(), answer):
            raise NoAnswer(index)
