"""Corners of shares: all sums that settling rows needs, exact or rough."""


class Corner:
    """Chosen shares, one for each unknown, all others being 0, and the unknowns that belong to them.

    Times the weights the shares come to at most the goal at each unknown. Chosen may also be what the goal leaves
    over at an unknown; it is numbered behind the rows, like the share of a row that asks the unknown to be at least
    0. A line tells of a chosen share how much one more of the goal at each unknown would add to it, and behind that
    the share itself; top tells the unknowns, and behind them the price that both come to.

    The numbers of a line are over its scale, those of the top over the corner's. Exact, the corner's scale is such
    that all of these are whole numbers, and a line keeps an older one until it is changed; rough, there is one
    scale for all, what doesn't come out even is cut off, and up to the grain a number counts as 0.
    """

    def __init__(self, rows, goal, rough):
        self.rough = rough
        self.scale = 10 ** 48 * 10 ** 48 if rough else 1
        self.grain = 10 ** 48 if rough else 0
        self.rows = [(pairs_of(weights), least) for weights, least in rows]
        self.spans = [max(1, sum([abs(weight) for weight in weights])) for weights, least in rows]
        self.lines = [first_line(place, goal, self.scale) for place in range(len(goal))]
        self.scales = [self.scale] * len(goal)
        self.top = [0] * (len(goal) + 1)
        # Shares of nought: no number of the goal is below 0, so what it leaves over isn't either.
        self.chosen = [len(rows) + place for place in range(len(goal))]
        self.begun = list(self.chosen)

    def furthest_off(self):
        """The number of a row that isn't kept by the unknowns; None where all are and no unknown is below 0."""
        worst = None
        worst_lack = self.grain
        for number in range(len(self.rows)):
            lack = self.lack(number)
            # By their spans rows that are multiples of one another are alike.
            if lack > self.grain and (worst is None or lack * self.spans[worst] > worst_lack * self.spans[number]):
                worst = number
                worst_lack = lack
        # Unknowns below 0 wait until all rows are kept: most of them are right by then.
        lowest = min(self.top[:-1], default=0)
        if worst is None and lowest < -self.grain:
            worst = len(self.rows) + self.top.index(lowest)
        return worst

    def lack(self, number):
        """What the unknowns lack to keep the row."""
        if number >= len(self.rows):
            return -self.top[number - len(self.rows)]
        return self.scale * self.rows[number][1] - total_of(self.top, self.rows[number][0])

    def column(self, number):
        """What one more of the row's share would take from each chosen one."""
        if number >= len(self.rows):
            told = [line[number - len(self.rows)] for line in self.lines]
        else:
            told = [total_of(line, self.rows[number][0]) for line in self.lines]
        return [taken if abs(taken) > self.grain else 0 for taken in told]

    def first_used_up(self, column):
        """The place of the chosen share that is used up first when the column's grows; None where none ever is."""
        left = [place for place, taken in enumerate(column) if taken > 0]
        if not left:
            return None
        left = least_over(left, [line[-1] for line in self.lines], column)
        # Where several are used up at once it is as if those chosen at the begin had been greater by less and less,
        # each by a thing too small to be told: so none are ever alike, and no corner comes twice.
        for number in self.begun:
            if len(left) > 1:
                left = least_over(left, self.column(number), column)
        return left[0]

    def exchange(self, entering, column, leaving):
        """Goes to the corner where the entering row's share is chosen in place of the leaving one."""
        lack = self.lack(entering)
        sign = 1 if column[leaving] > 0 else -1
        line = [sign * number * self.scale // self.scales[leaving] for number in self.lines[leaving]]
        step = sign * column[leaving] * self.scale // self.scales[leaving]
        scale = self.scale if self.rough else step
        for place, taken in enumerate(column):
            if place != leaving and taken != 0:
                over = self.scales[place] * step // scale
                self.lines[place] = mixed(self.lines[place], step, line, -taken, over)
                self.scales[place] = scale
        self.top = mixed(self.top, step, line, lack, self.scale * step // scale)
        self.lines[leaving] = [number * scale // step for number in line]
        self.scales[leaving] = scale
        self.scale = scale
        self.chosen[leaving] = entering

    def choose(self, wanted):
        """Goes, from the first corner, to that of the wanted shares; False where there is no such corner."""
        for entering in wanted:
            if entering not in self.chosen:
                column = self.column(entering)
                places = [place for place, taken in enumerate(column) if taken != 0]
                unwanted = [place for place in places if self.chosen[place] not in wanted]
                if not unwanted:
                    return False
                self.exchange(entering, column, unwanted[0])
        self.begun = list(self.chosen)
        return min([line[-1] for line in self.lines], default=0) >= 0

    def spread(self, numbers):
        """A list with a number for each row, over the corner's scale: those of the chosen ones, else 0."""
        told = [0] * len(self.rows)
        for place, number in enumerate(self.chosen):
            if number < len(self.rows):
                told[number] = numbers[place] * self.scale // self.scales[place]
        return told


def first_line(place, goal, scale):
    """What the goal leaves over at the unknown of this place, where all shares are 0."""
    line = [0] * len(goal) + [goal[place] * scale]
    line[place] = scale
    return line


def least_over(left, numbers, column):
    """Those of the places left whose number, over that of the column, is least."""
    least = left[:1]
    for place in left[1:]:
        here = numbers[place] * column[least[0]]
        there = numbers[least[0]] * column[place]
        if here < there:
            least = [place]
        elif here == there:
            least.append(place)
    return least


def pairs_of(weights):
    """The weights that aren't 0, with their places."""
    return [(place, weight) for place, weight in enumerate(weights) if weight != 0]


def total_of(line, pairs):
    """The line's numbers times the weights."""
    return sum([line[place] * weight for place, weight in pairs])


def mixed(line, often, other, times, over):
    """The line so often and the other so many times, over a number."""
    return [(one * often + two * times) // over for one, two in zip(line, other)]
