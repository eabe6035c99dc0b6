"""Views [65]."""

from innerasks.errors import InUse, InvalidName, SameName, UnknownView
from innerasks.viewing import bound_over, check_view, unfolded, uses_table
from innerasks.words import is_name


class Views:
    """A schema with views, tuples (name, question): each may use the tables, and the views before it."""

    def __init__(self, schema, *views):
        # From the names of views to their questions, in which there is no view.
        whole = {}
        for name, question in views:
            if not is_name(name):
                raise InvalidName(name)
            if name in schema or name in whole:
                raise SameName(name)
            check_view(schema, question, whole)
            whole[name] = unfolded(question, whole)
        self._schema = schema
        self._listed = views
        self._whole = whole
        self._labels = tuple(whole)

    @property
    def schema(self):
        """The schema."""
        return self._schema

    @property
    def names(self):
        """The names of the views, in order."""
        return self._labels

    def expanded(self, question):
        """A question with the questions of views in their place."""
        return unfolded(question, self._whole)

    def bind(self, question):
        """The bound question, without views, and its columns."""
        return bound_over(self._schema, question, self._whole)

    def added(self, name, question):
        """The same with one more view, the last."""
        return Views(self._schema, *self._listed, (name, question))

    def dropped(self, name):
        """The same without a view, which no other one may use."""
        if name not in self._labels:
            raise UnknownView(name)
        for other, question in self._listed:
            if uses_table(question, name):
                raise InUse(other)
        rest = [view for view in self._listed if view[0] != name]
        return Views(self._schema, *rest)

    def __len__(self):
        return len(self._labels)

    def __contains__(self, x):
        return x in self._labels

    def __eq__(self, other):
        return isinstance(other, Views) and self._schema == other._schema and self._listed == other._listed
