"""Pistons: what was stored on one, and how it is put in the place of what is drawn."""


class Piston:
    def __init__(self, knobs):
        self.knob_set = knobs

    # Those under it tell which of the drawn knobs give way.
    def put(self, drawn):
        return drawn


class Every(Piston):
    def put(self, drawn):
        return self.knob_set


class Part(Piston):
    def __init__(self, knobs, whole):
        Piston.__init__(self, knobs)
        self.whole_set = whole

    def put(self, drawn):
        return (drawn & ~self.whole_set) | self.knob_set
