"""How many deeds must still be put into a docket so that the told answer is another one."""

from searchback.checks import check_questions
from searchback.customs import deed_step, end_step
from searchback.docket import told_answer
from searchback.frame import Frame, lot_of, numbers_in
from searchback.histories import History, history_of
from searchback.labels import is_positive
from searchback.layers import check_placings
from searchback.walks import answer_of


class Margin:
    """The least number of deeds more that change the answer, and a history with so many."""

    def __init__(self, needed, example):
        self.needed = needed
        self.example = example


class Puttings:
    """All placed stands to which the rows lead with 0, 1, 2, .. deeds put in.

    The steps are the told deeds and, as None, the year's ends, each with whether deeds may be put
    in ahead of it. Item n of `rows` has for each step the lot ahead of it, and last the lot behind
    all steps, of the stands that come with n deeds more and with no fewer ones.
    """

    def __init__(self, frame, steps):
        self.frame = frame
        self.steps = steps
        self.kinds = frame.custom.kinds.names
        self.rows = [self._row([0 for _ in range(len(steps) + 1)], [lot_of([frame.start]), *[0 for _ in steps]])]
        self.seen = list(self.rows[0])

    def put_more(self):
        """Find what comes with one deed more."""
        put = [self._put(lot) if free else 0 for lot, (_, free) in zip(self.rows[-1], self.steps)]
        self.rows.append(self._row(self.seen, [*put, 0]))
        self.seen = [one | other for one, other in zip(self.seen, self.rows[-1])]

    def way_to(self, number):
        """The steps of a way with the fewest deeds put in that ends with this stand.

        A deed that is put in is the number of the stand to which it leads, another step is itself.
        """
        many = len(self.rows) - 1
        place = len(self.steps)
        found = []
        while many > 0 or place > 0:
            if place > 0:
                step = self.steps[place - 1][0]
                ahead = [one for one in numbers_in(self.rows[many][place - 1]) if self._behind(one, step) == number]
                if ahead:
                    place = place - 1
                    found.append((False, step))
                    number = ahead[0]
                    continue
            found.append((True, number))
            many = many - 1
            ways = self.frame.ways_of(self.kinds)
            number = [one for one in numbers_in(self.rows[many][place]) if (ways[one] >> number) & 1][0]
        return found[::-1]

    def _row(self, seen, put):
        """The lots ahead of each step and behind the last one, of those that were not seen."""
        row = [put[0] & ~seen[0]]
        for place, (step, _) in enumerate(self.steps):
            behind = lot_of([self._behind(number, step) for number in numbers_in(row[-1])])
            row.append((behind | put[place + 1]) & ~seen[place + 1])
        return row

    def _put(self, lot):
        ways = self.frame.ways_of(self.kinds)
        found = 0
        for number in numbers_in(lot):
            found = found | ways[number]
        return found

    def _behind(self, number, step):
        return self.frame.end_of(number) if step is None else self.frame.done(number, step)


def margin_of(docket, year, question):
    """The margin of the told answer, or None if no deeds can change it."""
    check_questions(docket.custom, (question,))
    persons = docket.abstract_to(year).persons
    check_placings(docket.custom, len(persons))
    told = told_answer(docket, year, question)
    frame = Frame(docket.custom, persons)
    puttings = Puttings(frame, _steps_to(docket, year))
    while any([lot > 0 for lot in puttings.rows[-1]]):
        for number in numbers_in(puttings.rows[-1][-1]):
            if question.read(docket.custom, frame.stand_of(number).code) != told:
                return Margin(len(puttings.rows) - 1, _example_of(frame, puttings.way_to(number)))
        puttings.put_more()
    return None


def margin_fault(docket, year, question, margin):
    """None if the margin's example shows that so many deeds are enough, else the word for why not."""
    check_questions(docket.custom, (question,))
    abstract = docket.abstract_to(year)
    if not isinstance(margin, Margin):
        return "margin"
    if not is_positive(margin.needed):
        return "needed"
    example = margin.example
    if not isinstance(example, History) or example.kinds != docket.custom.kinds or len(example) != year + 1:
        return "example"
    if example.deed_count - sum([len(deeds) for deeds in docket.rows[:year + 1]]) != margin.needed:
        return "deeds"
    if not abstract.fills(example):
        return "rows"
    return "answer" if answer_of(docket.custom, example, question) == told_answer(docket, year, question) else None


def _steps_to(docket, year):
    """The told deeds up to a year and the year's ends, each with whether the year is not shut."""
    found = []
    for at, deeds in enumerate(docket.rows[:year + 1]):
        found.extend([(step, at not in docket.shut_years) for step in (*deeds, None)])
    return tuple(found)


def _example_of(frame, way):
    """The history of a way."""
    code = frame.custom.start.code
    years = []
    deeds = []
    for is_put, step in way:
        if step is None:
            code = end_step(frame.custom, code)[1]
            years.append(tuple(deeds))
            deeds = []
            continue
        deed = frame.deed_to(code, frame.custom.kinds.names, step) if is_put else step
        deeds.append(deed)
        code = deed_step(frame.custom, code, deed)[1]
    return history_of(frame.custom.kinds, tuple(years))
