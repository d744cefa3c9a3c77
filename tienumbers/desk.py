"""A desk: it is told rows, keeps a web and numbers put to its places, and answers."""

from tienumbers.answers import answer_told
from tienumbers.deeds import deed_done
from tienumbers.errors import NoRow
from tienumbers.rows import is_question, row_read


class Desk:
    def __init__(self):
        # What stood ahead of each deed that stands, and last what stands now: the web, and numbers by places.
        self.states = [((1, ()), {})]

    def say(self, row):
        told = row_read(row)
        web = self.states[-1][0]
        numbers = self.states[-1][1]
        if is_question(told[0]):
            return answer_told(web, numbers, told[0], told[1])
        if told[0] == "back":
            self.go_back()
        else:
            self.states.append(deed_done(web, numbers, told[0], told[1]))
        return "ok"

    def go_back(self):
        if len(self.states) == 1:
            raise NoRow()
        self.states.pop()
