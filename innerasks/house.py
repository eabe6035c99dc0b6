"""A house: a database, views and prepared questions, and the steps that led to them [66 to 69]."""

from innerasks.changing import changed
from innerasks.compiling import compiled
from innerasks.databases import Database
from innerasks.errors import InUse, InvalidName, NothingToRedo, NothingToUndo, SameName, UnknownName
from innerasks.flattening import flat
from innerasks.plain import answer
from innerasks.reader import read_question
from innerasks.viewing import uses_table
from innerasks.views import Views
from innerasks.words import is_name


class Shape:
    """What a house holds at a time; it is never changed. Texts and questions are dicts from prepared names."""

    def __init__(self, base, seen, texts, questions):
        self.base = base
        self.seen = seen
        self.texts = texts
        self.questions = questions

    def is_prepared(self, name):
        """Whether any value is the name of a prepared question."""
        return isinstance(name, str) and name in self.questions

    def check_fresh(self, name):
        """A new name must be one, and be used by nothing."""
        if not is_name(name):
            raise InvalidName(name)
        if name in self.base.schema or name in self.seen or name in self.questions:
            raise SameName(name)

    def bound(self, name):
        """The bound question of a prepared name."""
        if not self.is_prepared(name):
            raise UnknownName(name)
        return self.seen.bind(self.questions[name])[0]

    def with_prepared(self, name, text, question):
        """The same with one more prepared question."""
        return Shape(self.base, self.seen, {**self.texts, name: text}, {**self.questions, name: question})

    def without(self, name):
        """The same without a view or a prepared question."""
        if self.is_prepared(name):
            texts = {other: text for other, text in self.texts.items() if other != name}
            questions = {other: question for other, question in self.questions.items() if other != name}
            return Shape(self.base, self.seen, texts, questions)
        if name not in self.seen:
            raise UnknownName(name)
        seen = self.seen.dropped(name)
        for other in sorted(self.questions):
            if uses_table(self.questions[other], name):
                raise InUse(other)
        return Shape(self.base, seen, self.texts, self.questions)


class House:
    """A database, views and prepared questions, which steps change."""

    def __init__(self, schema, rows=None):
        self._shape = Shape(Database(schema, rows), Views(schema), {}, {})
        # The steps that stand, each with the shape before it.
        self._done = ()
        # The steps that were taken back, the last one last, each with the shape behind it.
        self._undone = ()
        # How many steps stand that must not be taken back: those from before a trial.
        self._fixed = 0

    @property
    def database(self):
        """The database."""
        return self._shape.base

    @property
    def views(self):
        """The views."""
        return self._shape.seen

    @property
    def prepared(self):
        """A new dict from the names of prepared questions, ascending, to their texts."""
        return {name: self._shape.texts[name] for name in sorted(self._shape.texts)}

    @property
    def steps(self):
        """The steps that stand, in order."""
        return tuple([step for step, _ in self._done])

    # Questions.

    def ask(self, text, *, params=None):
        """The answer of a question."""
        question, _ = self._shape.seen.bind(read_question(text))
        return answer(self._shape.base, question, params=params)

    def run(self, name, *, params=None):
        """The answer of a prepared question."""
        return answer(self._shape.base, self._shape.bound(name), params=params)

    def plan_of(self, name):
        """The flat plan of a prepared question."""
        return flat(compiled(self._shape.base.schema, self._shape.bound(name)))

    # Steps.

    def define(self, name, text):
        """Adds a view, the last one."""
        shape = self._shape
        shape.check_fresh(name)
        seen = shape.seen.added(name, read_question(text))
        self.advance(("define", name, text), Shape(shape.base, seen, shape.texts, shape.questions))

    def prepare(self, name, text):
        """Adds a prepared question."""
        shape = self._shape
        shape.check_fresh(name)
        question = read_question(text)
        shape.seen.bind(question)
        self.advance(("prepare", name, text), shape.with_prepared(name, text, question))

    def drop(self, name):
        """Takes away a view or a prepared question."""
        self.advance(("drop", name), self._shape.without(name))

    def apply(self, *changes, params=None):
        """Changes tables."""
        shape = self._shape
        base = changed(shape.base, shape.seen, changes, params)
        told = {} if params is None else params
        passed_ones = tuple([(name, told[name]) for name in sorted(told)])
        self.advance(("apply", changes, passed_ones), Shape(base, shape.seen, shape.texts, shape.questions))

    def advance(self, step, shape):
        """Makes a step, which leads to a shape."""
        self._done = self._done + ((step, self._shape),)
        self._undone = ()
        self._shape = shape

    def undo(self):
        """Takes back the last step that stands."""
        if len(self._done) == self._fixed:
            raise NothingToUndo()
        step, before = self._done[-1]
        self._undone = self._undone + ((step, self._shape),)
        self._done = self._done[:-1]
        self._shape = before

    def redo(self):
        """Makes the step again that was taken back last."""
        if len(self._undone) == 0:
            raise NothingToRedo()
        step, behind = self._undone[-1]
        self._done = self._done + ((step, self._shape),)
        self._undone = self._undone[:-1]
        self._shape = behind

    def trial(self, action):
        """What a function returns for the house, which is as before when the function ends, in whatever way."""
        shape, done, undone, fixed = self._shape, self._done, self._undone, self._fixed
        self._undone = ()
        self._fixed = len(done)
        try:
            return action(self)
        finally:
            self._shape, self._done, self._undone, self._fixed = shape, done, undone, fixed

    @classmethod
    def replayed(cls, schema, rows, steps):
        """A house that is made, and then these steps."""
        house = cls(schema, rows)
        for step in steps:
            house.take(step)
        return house

    def take(self, step):
        """Makes a step that is told as a tuple."""
        word, *told = step
        if word == "apply":
            changes, passed_ones = told
            params = {name: value for name, value in passed_ones}
            self.apply(*changes, params=params)
        elif word == "define":
            self.define(told[0], told[1])
        elif word == "prepare":
            self.prepare(told[0], told[1])
        else:
            self.drop(told[0])

    def __eq__(self, other):
        return (isinstance(other, House) and self._shape.base == other._shape.base
                and self._shape.seen == other._shape.seen and self._shape.questions == other._shape.questions)
