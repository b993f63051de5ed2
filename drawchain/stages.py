"""The makers and stages of a drawer: draw tells the next number, or None if it has ended."""


class Count:
    def __init__(self, begin, step, meter):
        self.number = begin
        self.step = step
        self.meter = meter
        self.place = meter.enter()

    def draw(self):
        self.meter.note_drawn(self.place)
        number = self.number
        self.number = number + self.step
        return number


class Row:
    def __init__(self, numbers, meter):
        self.numbers = numbers
        self.at = 0
        self.meter = meter
        self.place = meter.enter()

    def draw(self):
        # That the row has ended is asked first: it is no number drawn.
        if self.at == len(self.numbers):
            return None
        self.meter.note_drawn(self.place)
        number = self.numbers[self.at]
        self.at += 1
        return number


class Stage:
    """What all stages have in common: they draw from what is ahead, and stay ended."""

    def __init__(self, ahead):
        self.ahead = ahead
        self.ended = False

    def draw(self):
        if self.ended:
            return None
        number = self.work()
        if number is None:
            self.ended = True
        return number

    def work(self):
        """As draw, of a stage that has not ended yet."""
        raise NotImplementedError("each stage works in its own way")


class Reckon(Stage):
    """add and times in one: each number times a factor, plus a term."""

    def __init__(self, ahead, factor, term):
        super().__init__(ahead)
        self.factor = factor
        self.term = term

    def work(self):
        number = self.ahead.draw()
        if number is None:
            return None
        return number * self.factor + self.term


class Keep(Stage):
    def __init__(self, ahead, rest, wheel):
        super().__init__(ahead)
        self.rest = rest
        self.wheel = wheel

    def work(self):
        number = self.ahead.draw()
        while number is not None and number % self.wheel != self.rest:
            number = self.ahead.draw()
        return number


class Drop(Stage):
    def __init__(self, ahead, many):
        super().__init__(ahead)
        self.left = many

    def work(self):
        while self.left > 0:
            if self.ahead.draw() is None:
                return None
            self.left -= 1
        return self.ahead.draw()


class Take(Stage):
    def __init__(self, ahead, many):
        super().__init__(ahead)
        self.left = many

    def work(self):
        if self.left == 0:
            return None
        self.left -= 1
        return self.ahead.draw()


class Each(Stage):
    def __init__(self, ahead, many):
        super().__init__(ahead)
        self.many = many
        self.left = 0
        self.number = None

    def work(self):
        if self.left == 0:
            self.number = self.ahead.draw()
            self.left = self.many
        self.left -= 1
        return self.number


class Until(Stage):
    def __init__(self, ahead, n, meter):
        super().__init__(ahead)
        self.n = n
        self.meter = meter

    def work(self):
        number = self.ahead.draw()
        if number is None or number < self.n:
            return number
        self.meter.note_undone(number)
        return None


class Unlike(Stage):
    def __init__(self, ahead):
        super().__init__(ahead)
        self.last = None

    def work(self):
        number = self.ahead.draw()
        while number is not None and number == self.last:
            number = self.ahead.draw()
        self.last = number
        return number


class Both(Stage):
    def __init__(self, ahead, other, meter):
        super().__init__(ahead)
        self.other = other
        self.meter = meter

    def work(self):
        number = self.ahead.draw()
        if number is None:
            return None
        second = self.other.draw()
        if second is None:
            self.meter.note_undone(number)
            return None
        return number + second


class Then(Stage):
    def __init__(self, ahead, other):
        super().__init__(ahead)
        self.other = other

    def work(self):
        number = self.ahead.draw()
        if number is None:
            return self.other.draw()
        return number
