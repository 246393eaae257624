"""Tables of all pairs to which two customs come, and histories behind which they answer unlike."""


class Closed:
    """The base of the tables: pairs that come at year's ends, and pairs that come at moments."""

    def __init__(self, ends, moments):
        self.end_table = _plain_table(ends)
        self.moment_table = _plain_table(moments)
        self.ends = tuple(list(self.end_table.values()))
        self.moments = tuple(list(self.moment_table.values()))

    def __eq__(self, other):
        if not isinstance(other, Closed) or self.__class__.__name__ != other.__class__.__name__:
            return False
        return self.ends == other.ends and self.moments == other.moments

    def __len__(self):
        return len(self.moments)

    def __iter__(self):
        return iter(self.moments)

    def is_moment(self, pair):
        """Whether the plain form of the pair is one of the moments."""
        return _key_of(pair.plain()) in self.moment_table

    def is_end(self, pair):
        """Whether the plain form of the pair is one of the ends."""
        return _key_of(pair.plain()) in self.end_table


class Alike(Closed):
    """Shows that two customs answer alike behind all histories."""


class Covers(Closed):
    """Shows that whoever sits in a seat under the second custom sits there under the first one, too."""


class Parting:
    """A history behind which a question has unlike answers under two customs."""

    def __init__(self, history, question, first, second):
        self.history = history
        self.question = question
        self.first = first
        self.second = second

    def __eq__(self, other):
        if not isinstance(other, Parting) or self.history != other.history:
            return False
        return self.question == other.question and self.first == other.first and self.second == other.second


def _plain_table(pairs):
    """The plain forms of the pairs by their keys, each once."""
    table = {}
    for pair in pairs:
        # Nearly all pairs that come here are plain, and need not be made anew.
        plain = pair if pair.is_plain else pair.plain()
        table[_key_of(plain)] = plain
    return table


def _key_of(pair):
    return (pair.one.code, pair.other.code)
