"""What a quick machine makes of looks, by the words of [19], [20] and [21].

It runs nothing: since a quick machine does what a plain one does, it is told the looks that
the second plain machine noted, one by one, and keeps account of what was let by.
"""


class Ledger:
    def __init__(self, most=8):
        self.most = most
        self.asked = []          # answers: [version, word, found], the one asked longest ago first
        self.places = {}         # of each place: [state, what the look that made it special found]
        self.looks = self.hits = self.misses = 0
        self.visits = []

    def state(self, *place):
        return self.places.get(place, [("cold", None, 0), None])[0]

    def answers(self):
        return [tuple(answer) for answer in self.asked]

    def papers(self):
        return sorted([place + (state[1], found) for place, (state, found) in self.places.items()
                       if state[0] == "special"], key=lambda paper: paper[:3])

    def run(self, notes):
        """Keep account of the looks of a run."""
        self.visits = []
        for note in notes:
            if note == "calm":
                self.asked, self.places = [], {}
            else:
                self.look(*note)

    def look(self, place, lets, guard, found, asked, others):
        state = self.state(*(place or ("", 0, 0)))
        if state[0] == "special" and state[1] in lets:
            self.hits += 1
            self.visits.append(place + (state[1], True))
            assert self.places[place][1] == found
            return
        self.looks += others
        if asked is not None:
            self.answer(*asked, found)
        if place is not None:
            self.misses += state[0] == "special"
            self.visits.append(place + (guard, False))
            after = self.after(state, guard)
            keeps = state[0] == "special" and after[0] == "special"
            self.places[place] = [after, self.places[place][1] if keeps else found]

    def answer(self, version, word, tables, found):
        """Serve a look by an answer, or keep one."""
        for answer in self.asked:
            if answer[:2] == [version, word]:
                assert answer[2] == found
                self.asked.remove(answer)
                self.asked.append(answer)
                return
        self.looks += tables
        self.asked.append([version, word, found])
        self.asked = self.asked[-self.most:]

    def after(self, state, guard):
        """The table of [20], row by row, but for the hits."""
        if state[0] == "cold" and state[2] == 1 and guard == state[1]:
            return ("special", guard, 0)
        if state[0] == "cold":
            return ("cold", None, 0) if guard is None else ("cold", guard, 1)
        if state[0] == "special":
            return ("special", state[1], 1) if state[2] == 0 else ("rest", 4)
        return ("rest", state[1] - 1) if state[1] > 1 else ("cold", None, 0)
