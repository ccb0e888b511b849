"""A talk from a talk a to a talk b that is going on, with an answerer who keeps to a manner."""

from parleyhall.errors import NoStep, Over
from parleyhall.rows import first_moment, moment_behind, steps_at


class Hall:
    def __init__(self, a, b, manner):
        self.moment = first_moment(a, b)
        self.row = ()
        self.manner = dict(manner)
        self.silent = False

    def hear(self, step):
        if self.silent:
            raise Over("the answerer was silent ahead")
        if step not in steps_at(self.moment):
            # Very long numbers can't be shown as texts: so the words name no step.
            raise NoStep("the step does not go on with what was said")
        self.go_on(step)
        answer = self.manner.get(self.row)
        if answer is None:
            self.silent = True
        else:
            self.go_on(answer)
        return answer

    def go_on(self, step):
        self.moment = moment_behind(self.moment, step)
        self.row = self.row + (step,)

    def said(self):
        return list(self.row)

    def due(self):
        return [] if self.silent else steps_at(self.moment)
