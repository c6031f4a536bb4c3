"""Streams from their data and their recipes (point 713)."""

from bellows.errors import WrongRecipe
from bellows.base.bits import BitWriter
from bellows.copies.symbols import LEAST_LENGTH, MOST_DISTANCE, MOST_LENGTH
from bellows.inflate.grammar import possible_size, put_block
from bellows.inflate.units import DYNAMIC, STORED
from bellows.inflate.whole import MOST_LIMIT
from bellows.ways.guessing import TOLD_LITERAL, TOLD_OTHER_LONGEST, all_guesses, item_of_told


class Rebuilding:
    """Reads a recipe number by number, and writes the blocks that it describes."""

    def __init__(self, data, recipe):
        if len(data) > MOST_LIMIT:
            raise WrongRecipe(0)
        self._data = data
        self._guesses = all_guesses(data)
        self._recipe = recipe
        # The index of the next number of the recipe, and that of the next byte of the data.
        self._next = 0
        self._at = 0
        self._writer = BitWriter()

    def stream(self):
        """The stream; raises the error if there is none."""
        is_last = 0
        while is_last == 0:
            is_last = self._write_block()
        width = -self._writer.count() % 8
        self._writer.put(self._next_number_up_to((1 << width) - 1), width)
        if self._at < len(self._data) or self._next < len(self._recipe):
            raise WrongRecipe(0)
        return self._writer.data()

    def _write_block(self):
        """Write the next block, and tell whether it is the last one."""
        number = self._next_number_up_to(2 * DYNAMIC + 1)
        is_last = number % 2
        kind = number // 2
        head = []
        if kind == STORED:
            head, content = self._read_stored()
        else:
            if kind == DYNAMIC:
                head = self._read_head()
            content = self._read_items()
        block = (kind, is_last, 0, 0, 0, content, head)
        if possible_size(block, self._writer.count()) is None:
            raise WrongRecipe(0)
        put_block(self._writer, block)
        return is_last

    def _read_stored(self):
        """The fill bits and the bytes of a stored block."""
        width = -(self._writer.count() + 3) % 8
        fill = self._next_number_up_to((1 << width) - 1)
        size = self._next_number_up_to(len(self._data) - self._at)
        content = self._data[self._at:self._at + size]
        self._at += size
        return ([(fill >> index) & 1 for index in range(width)], content)

    def _read_head(self):
        letter_count, distance_count = self._next_numbers(2)
        numbers = self._next_numbers(self._next_number())
        values = self._next_numbers(2 * self._next_number())
        rows = [(values[index], values[index + 1]) for index in range(0, len(values), 2)]
        return (letter_count, distance_count, numbers, rows)

    def _read_items(self):
        left = self._next_number()
        if left < 0:
            raise WrongRecipe(0)
        items = []
        while left > 0:
            agreeing = self._next_number_up_to(left)
            for _ in range(agreeing):
                items.append(self._item(self._guess()))
            left -= agreeing
            if left > 0:
                items.append(self._item(self._told()))
                left -= 1
        return items

    def _guess(self):
        """What is guessed where the next item stands."""
        if self._at == len(self._data):
            raise WrongRecipe(0)
        return self._guesses[self._at]

    def _told(self):
        """What the recipe tells of an item, which must be something else than the guess."""
        length = self._next_number()
        told = [length]
        if length != TOLD_LITERAL:
            told.append(self._next_number())
            if length == TOLD_OTHER_LONGEST:
                length = MOST_LENGTH
            self._check_copy(length, told[1])
        if told == self._guess():
            raise WrongRecipe(0)
        return told

    def _check_copy(self, length, distance):
        """Check that a copy gives the bytes that come next."""
        after = self._at + length
        if not LEAST_LENGTH <= length <= MOST_LENGTH or after > len(self._data):
            raise WrongRecipe(0)
        if not 1 <= distance <= min(MOST_DISTANCE, self._at):
            raise WrongRecipe(0)
        if self._data[self._at - distance:after - distance] != self._data[self._at:after]:
            raise WrongRecipe(0)

    def _item(self, told):
        """The item that is told, which stands for the next bytes."""
        item = item_of_told(told, self._data[self._at])
        if told[0] == TOLD_LITERAL:
            self._at += 1
        elif told[0] == TOLD_OTHER_LONGEST:
            self._at += MOST_LENGTH
        else:
            self._at += told[0]
        return item

    def _next_number(self):
        """The next number of the recipe."""
        return self._next_numbers(1)[0]

    def _next_numbers(self, count):
        """So many numbers of the recipe."""
        after = self._next + count
        if count < 0 or after > len(self._recipe):
            raise WrongRecipe(0)
        found = self._recipe[self._next:after]
        self._next = after
        return found

    def _next_number_up_to(self, most):
        """The next number, which must be from 0 to the greatest one."""
        number = self._next_number()
        if not 0 <= number <= most:
            raise WrongRecipe(0)
        return number
