"""A house: a net that is changed deed by deed, and has the answers of its standstill behind each one."""

from namepaths.copies import own_lists
from namepaths.errors import NoPlace
from namepaths.looks import look_up
from namepaths.names import is_place
from namepaths.nets import net_of
from namepaths.still import settled, still, uses_one
from namepaths.walked import questions_of, scopes_of


class House:
    """A net and its table; a deed that is refused changes nothing."""

    def __init__(self, net, table):
        refuse_lacking_states(net, table)
        self.kept_net = own_lists(net)
        self.kept_table = own_lists(table)
        self.kept_answers = still(net, table)[0]
        self.kept_gone = list(range(len(net[2])))

    def tell(self, scope, telling):
        """A telling more, at the scope's end."""
        steps, tellings = self.parts_of(scope)
        self.put(scope, (steps, tellings + [telling]))

    def step(self, scope, step):
        """A step more, at the scope's end."""
        steps, tellings = self.parts_of(scope)
        self.put(scope, (steps + [step], tellings))

    def untell(self, scope, index):
        """The telling of this index taken out."""
        steps, tellings = self.parts_of(scope)
        self.put(scope, (steps, without(tellings, index)))

    def unstep(self, scope, index):
        """The step of this index taken out."""
        steps, tellings = self.parts_of(scope)
        self.put(scope, (without(steps, index), tellings))

    def room(self):
        """A scope more, without steps and tellings; gives its number."""
        scopes, things, questions = self.kept_net
        self.settle(net_of(scopes + [([], [])], things, questions), [])
        return len(scopes)

    def thing(self, kind, number):
        """A thing more; gives its number."""
        scopes, things, questions = self.kept_net
        self.settle(net_of(scopes, things + [(kind, number)], questions), [])
        return len(things)

    def ask(self, scope, path, state=0):
        """A question more; gives its number."""
        scopes, things, questions = self.kept_net
        refuse_no_place(scopes, scope)
        new = len(questions)
        self.settle(net_of(scopes, things, questions + [(scope, state, path)]), [new])
        return new

    def net(self):
        """The net as it is now."""
        return own_lists(self.kept_net)

    def answers(self):
        """The answers of the net's standstill."""
        return list(self.kept_answers)

    def gone(self):
        """The questions that the last deed made the house go through again, sorted."""
        return list(self.kept_gone)

    def parts_of(self, scope):
        """The scope's steps and tellings; NoPlace where there is no such scope."""
        scopes = self.kept_net[0]
        refuse_no_place(scopes, scope)
        return scopes[scope]

    def put(self, scope, parts):
        """The scope with these steps and tellings in the place of its own."""
        scopes, things, questions = self.kept_net
        net = net_of(scopes[:scope] + [parts] + scopes[scope + 1:], things, questions)
        self.settle(net, hanging_on(self.kept_net, self.kept_answers, self.kept_table, scope))

    def settle(self, net, gone):
        """The net as the house's own, the questions that are gone through again answered anew, the others as before."""
        refuse_lacking_states(net, self.kept_table)
        more = [None] * (len(net[2]) - len(self.kept_answers))
        # What isn't gone through again would find what it found before, by looks that are no more tangled than then.
        answers, turns = settled(net, self.kept_table, self.kept_answers + more, gone)
        self.kept_net = net
        self.kept_answers = answers
        self.kept_gone = gone


def refuse_no_place(parts, number):
    if not is_place(number, len(parts)):
        raise NoPlace("a number of nothing that is there")


def refuse_lacking_states(net, table):
    for scope, state, path in net[2]:
        if not is_place(state, len(table[0])):
            raise NoPlace("a question's state that the table lacks")


def without(parts, index):
    """The parts but for that of the index; NoPlace where there is none."""
    refuse_no_place(parts, index)
    return parts[:index] + parts[index + 1:]


def hanging_on(net, answers, table, scope):
    """The least list of questions with each one that walked the scope, and each one that uses one of the list."""
    hang = {}
    uses = {}
    for question, asked in enumerate(net[2]):
        answer, wait, looks, things = look_up(net, answers, table, asked)
        uses[question] = questions_of(net, answers, table, looks, things)
        if (scopes_of(looks) >> scope) & 1:
            hang[question] = True
    more = list(hang)
    while more:
        more = [question for question in uses if question not in hang and uses_one(uses[question], hang)]
        hang.update(dict([(question, True) for question in more]))
    return sorted(hang)
