"""Rounds by the second way to walk: who keeps and who gets a seat, and what plans say, written down plainly."""

from searchback.plans import Gets, Keeps, Loses, Never
from searchback.stand import Stand
from tests.helpers import all_deeds, every_stand, told_after, told_end


def told_marked(stand, person):
    labels = [label for label in "abcdefgh" if label != person]
    names = {None: None, person: person}
    for one in stand.seats:
        if one not in names:
            names[one] = labels[len(names) - 2]
    return Stand(stand.room, [names[one] for one in stand.seats], stand.clocks)


def told_own(deed, person):
    return len(deed) > 1 and deed[1] == person


def told_rows_of_deeds(custom, stand, person):
    """The deeds of others, and the own ones, that can be told apart; two labels are of strangers."""
    others = [one for one in dict.fromkeys(stand.seats) if one not in (None, person)]
    strangers = [label for label in "abcdefgh" if label != person and label not in others][:2]
    deeds = all_deeds(custom.kinds, (person, *others, *strangers))
    return [deed for deed in deeds if not told_own(deed, person)], [deed for deed in deeds if told_own(deed, person)]


class Game:
    """All marked stands of a small custom, and where deeds lead from each."""

    def __init__(self, custom, seat, person):
        self.custom, self.person = custom, person
        self.place = custom.seats.index(seat)
        labels = [label for label in "abcd" if label != person][:3]
        every = every_stand(custom, (person, *labels))
        self.stands = [stand for stand in every if told_marked(stand, person).code == stand.code]
        self.codes = [stand.code for stand in self.stands]
        self.ends, self.others, self.own = {}, {}, {}
        for stand in self.stands:
            rows = told_rows_of_deeds(custom, stand, person)
            self.ends[stand.code] = self.marked(told_end(custom, stand))
            self.others[stand.code] = {self.marked(told_after(custom, stand, deed)) for deed in rows[0]}
            self.own[stand.code] = {self.marked(told_after(custom, stand, deed)) for deed in rows[1]}
        self.moments = {code: self.closure(code, self.others) for code in self.codes}
        self.own_ends = {code: {self.ends[to] for to in self.closure(code, self.own)} for code in self.codes}

    def marked(self, stand):
        return told_marked(stand, self.person).code

    def closure(self, code, ways):
        found, waiting = {code}, [code]
        while waiting:
            for to in ways[waiting.pop()] - found:
                found.add(to)
                waiting.append(to)
        return found

    def sits(self, code):
        return code[1][self.place] == self.person

    def kept(self, rest):
        """The codes of the stands from which the person keeps the seat, by striking out."""
        left = {(code, hindered) for code in self.codes if self.sits(code) for hindered in range(rest + 1)}
        size = None
        while size != len(left):
            size = len(left)
            left = {(code, hindered) for code, hindered in left if all(
                any((end, 0) in left for end in self.own_ends[moment])
                and (hindered == rest or (self.ends[moment], hindered + 1) in left)
                for moment in self.moments[code])}
        return {code for code, hindered in left if hindered == 0}

    def lost(self, rest):
        """For each beginning from which others win the least number of years, year by year."""
        years = {(code, hindered): 0 for code in self.codes if not self.sits(code) for hindered in range(rest + 1)}
        at = 0
        while at in years.values():
            at += 1
            before = dict(years)
            for code in self.codes:
                for hindered in range(rest + 1):
                    if (code, hindered) not in years and any(
                            hindered < rest and (self.ends[moment], hindered + 1) in before
                            or all((end, 0) in before for end in self.own_ends[moment])
                            for moment in self.moments[code]):
                        years[(code, hindered)] = at
        return years

    def got(self):
        """For each stand from which the person gets the seat the least number of years, year by year."""
        years = {code: 0 for code in self.codes if self.sits(code)}
        at = 0
        while at in years.values():
            at += 1
            before = dict(years)
            for code in self.codes:
                if code not in years and all(
                        any(end in before for end in self.own_ends[moment]) for moment in self.moments[code]):
                    years[code] = at
        return years

    # The sentences of plans, one after another.
    def led(self, stand, deeds):
        for deed in deeds:
            stand = told_after(self.custom, stand, deed)
        return stand

    def is_marked(self, stand):
        return self.custom.stand_fault(stand) is None and self.marked(stand) == stand.code

    def are_deeds(self, deeds, own):
        return all(self.custom.kinds.fault(deed) is None and told_own(deed, self.person) == own for deed in deeds)

    def keeping_fault(self, stand, paper, rest):
        if type(paper) is Keeps:
            return self.keeps_fault(stand, paper, rest)
        return self.loses_fault(stand, paper, rest) if type(paper) is Loses else "paper"

    def keeps_fault(self, stand, paper, rest):
        if paper.rest != rest:
            return "rest"
        codes = [row[0].code for row in paper.rows]
        if not all(self.is_marked(row[0]) and row[1] <= rest for row in paper.rows) or len(set(codes)) < len(codes):
            return "stands"
        if not all(self.are_deeds(row[2], True) for row in paper.rows):
            return "own"
        levels = {row[0].code: row[1] for row in paper.rows}
        if not self.sits(stand.code) or levels.get(self.marked(stand), 1) != 0:
            return "start"
        if not all(levels.get(to, rest + 1) <= row[1] for row in paper.rows for to in self.others[row[0].code]):
            return "deed"
        for row in paper.rows:
            end = told_end(self.custom, self.led(row[0], row[2]))
            if not self.sits(end.code) or levels.get(self.marked(end), 1) > 0:
                return "kept"
        for row in paper.rows:
            end = told_end(self.custom, row[0])
            if row[1] < rest and not (self.sits(end.code) and levels.get(self.marked(end), rest + 1) <= row[1] + 1):
                return "hindered"
        return None

    def loses_fault(self, stand, paper, rest):
        if paper.rest != rest:
            return "rest"
        keys = [(row[0].code, row[1]) for row in paper.rows]
        if not all(self.is_marked(row[0]) and row[1] <= rest for row in paper.rows) or len(set(keys)) < len(keys):
            return "stands"
        if not all(self.are_deeds(row[3], False) for row in paper.rows):
            return "others"
        if any(row[4] and row[1] == rest for row in paper.rows):
            return "hinder"
        years = {(row[0].code, row[1]): row[2] for row in paper.rows}
        if (years.get((self.marked(stand), 0)) if self.sits(stand.code) else 0) != paper.years:
            return "start"
        for row in paper.rows:
            moment = self.marked(self.led(row[0], row[3]))
            nexts = [(self.ends[moment], row[1] + 1)] if row[4] else [(end, 0) for end in self.own_ends[moment]]
            if any(self.sits(key[0]) and years.get(key, row[2]) >= row[2] for key in nexts):
                return "falls"
        return None

    def getting_fault(self, stand, paper):
        if type(paper) is Gets:
            return self.gets_fault(stand, paper)
        return self.never_fault(stand, paper) if type(paper) is Never else "paper"

    def gets_fault(self, stand, paper):
        codes = [row[0].code for row in paper.rows]
        if not all(self.is_marked(row[0]) for row in paper.rows) or len(set(codes)) < len(codes):
            return "stands"
        if not all(self.are_deeds(row[2], True) for row in paper.rows):
            return "own"
        years = {row[0].code: row[1] for row in paper.rows}
        if (0 if self.sits(stand.code) else years.get(self.marked(stand))) != paper.years:
            return "start"
        if not all(to in years and years[to] <= row[1] for row in paper.rows for to in self.others[row[0].code]):
            return "deed"
        for row in paper.rows:
            end = told_end(self.custom, self.led(row[0], row[2]))
            if not self.sits(end.code) and years.get(self.marked(end), row[1]) >= row[1]:
                return "falls"
        return None

    def never_fault(self, stand, paper):
        codes = [row[0].code for row in paper.rows]
        if not all(self.is_marked(row[0]) for row in paper.rows) or len(set(codes)) < len(codes):
            return "stands"
        if not all(self.are_deeds(row[1], False) for row in paper.rows):
            return "others"
        if self.sits(stand.code) or self.marked(stand) not in codes:
            return "start"
        for row in paper.rows:
            ends = self.own_ends[self.marked(self.led(row[0], row[1]))]
            if any(self.sits(end) or end not in codes for end in ends):
                return "never"
        return None
