"""Points 9 to 20 worked out once more, word by word and in the plainest way, for the tests to hold the program against.

Here looks may have however many beginnings; whether one is tangled is told apart. It is meant for small nets.
"""


def inside_of(net, answers, thing):
    kind, number = net[1][thing]
    if kind == "part":
        return "to", number
    if kind == "plain":
        return "no", 0
    if answers[number] is None:
        return "open", number
    what, which = answers[number]
    if what == "thing" and net[1][which][0] == "part":
        return "to", net[1][which][1]
    return "no", 0


def goal_of(net, answers, step):
    label, kind, number = step
    if kind == "to":
        return "to", number
    if answers[number] is None:
        return "open", number
    return inside_of(net, answers, answers[number][1]) if answers[number][0] == "thing" else ("no", 0)


def beginnings_of(net, answers, table, scope, state, visited=frozenset()):
    found = [([], scope, state)]
    visited = visited | {scope}
    goes = dict(table[0][state][0])
    for index, step in enumerate(net[0][scope][0]):
        kind, number = goal_of(net, answers, step)
        if step[0] in goes and kind == "to" and number not in visited:
            for marks, last, then in beginnings_of(net, answers, table, number, goes[step[0]], visited):
                found.append(([(scope, "step", index)] + marks, last, then))
    return found


def steps_behind(net, table, begun):
    """Each step of the scopes come to, by whose label the state come to goes, as (way to it and with it, step)."""
    return [(marks + [(last, "step", index)], step) for marks, last, then in begun
            for index, step in enumerate(net[0][last][0]) if step[0] in dict(table[0][then][0])]


def tellings_behind(net, table, begun, name):
    return [(marks + [(last, "told", index)], telling) for marks, last, then in begun
            for index, telling in enumerate(net[0][last][1])
            if telling[1] == name and telling[0] in table[0][then][1]]


def label_of(net, mark):
    scope, kind, index = mark
    return net[0][scope][0 if kind == "step" else 1][index][0]


def is_hidden(net, table, way, others):
    for other in others:
        for mine, its in zip(way, other):
            if mine != its:
                if (label_of(net, its), label_of(net, mine)) in table[2]:
                    return True
                break
    return False


class Looked:
    """What point 14 comes to for a question: answer, wait, trail, walked, used, and whether a look is tangled."""

    def __init__(self, net, answers, table, asked):
        self.net, self.answers, self.table = net, answers, table
        self.answer, self.wait, self.trail, self.tangled = None, None, [], False
        self.scopes, self.questions = set(), set()
        scope, state, path = asked
        for at, name in enumerate(path):
            thing = self.look(scope, state, at, name)
            if thing is None:
                return
            if at == len(path) - 1:
                self.answer = ("thing", thing)
                return
            if net[1][thing][0] == "sort":
                self.questions.add(net[1][thing][1])
            kind, number = inside_of(net, answers, thing)
            if kind == "open":
                self.wait = (at, [], number)
                return
            if kind == "no":
                self.answer = ("none", at + 1)
                return
            scope, state = number, table[1]

    def look(self, scope, state, at, name):
        """The thing that is found, or None where the look ends here."""
        net, answers, table = self.net, self.answers, self.table
        begun = beginnings_of(net, answers, table, scope, state)
        self.tangled = self.tangled or len(begun) > 200
        found = sorted((tuple(way), telling) for way, telling in tellings_behind(net, table, begun, name))
        ways = [way for way, telling in found]
        seen = [(way, telling) for way, telling in found if not is_hidden(net, table, way, ways)]
        self.trail.append([list(way) for way, telling in seen])
        self.note(begun, found)
        owed = sorted((way, goal_of(net, answers, step)[1]) for way, step in steps_behind(net, table, begun)
                      if goal_of(net, answers, step)[0] == "open")
        owed = [(way, question) for way, question in owed if not is_hidden(net, table, way, ways)]
        owed += [(list(way), telling[3]) for way, telling in seen
                 if telling[2] == "by" and answers[telling[3]] is None]
        if owed:
            self.wait = (at, owed[0][0], owed[0][1])
            return None
        means = {("thing", telling[3]) if telling[2] == "thing" else answers[telling[3]] for way, telling in seen}
        means = {answer if answer[0] == "thing" else "nothing" for answer in means}
        if not means - {"nothing"}:
            self.answer = ("none", at)
            return None
        if len(means) > 1:
            self.answer = ("torn", at)
            return None
        return means.pop()[1]

    def note(self, begun, found):
        self.scopes |= {last for marks, last, then in begun}
        for way, (label, kind, number) in steps_behind(self.net, self.table, begun):
            if kind == "by":
                self.questions.add(number)
                answer = self.answers[number]
                if answer is not None and answer[0] == "thing" and self.net[1][answer[1]][0] == "sort":
                    self.questions.add(self.net[1][answer[1]][1])
        self.questions |= {telling[3] for way, telling in found if telling[2] == "by"}

    def walked(self):
        return sum(2 ** scope for scope in self.scopes)

    def used(self):
        return sorted(self.questions)


def looked(net, answers, table, question):
    return Looked(net, answers, table, net[2][question])


def standstill(net, table):
    """(answers, turns, whether a look is tangled), however many beginnings there are on the way."""
    answers, turns, turn = [None] * len(net[2]), [0] * len(net[2]), 0
    while True:
        turn += 1
        found = [(question, looked(net, answers, table, question).answer)
                 for question in range(len(answers)) if answers[question] is None]
        found = [(question, answer) for question, answer in found if answer is not None]
        if not found:
            break
        for question, answer in found:
            answers[question], turns[question] = answer, turn
    return answers, turns, any(looked(net, answers, table, question).tangled for question in range(len(answers)))
