"""The cheapest places for appointments, and prices of slots that show that no others are cheaper.

Each appointment holds a slot where its cost and the price together are smallest for it. The slots that stay free
have a holder, too, here called nobody: it may hold every slot at no cost, and as many as are left. So every slot has
a holder in the end, and those of nobody have the lowest price.
"""

# More than costs and prices add up to.
FAR = 1000000000000


class Search:
    """The cheapest way to give one more holder a slot: others go on in turn, the last one to a slot without a holder.

    rows has the ascending choices (cost, slot) of each holder, held has (holder, cost) of each slot that is held.
    The first price of a slot is counted in its costs; rises has what the price has grown by since then.
    """

    def __init__(self, rows, held, rises):
        self._rows = rows
        self._held = held
        self._rises = rises
        self._came = {}
        self._sums = {}
        self._passed = {}
        self._asked = {}
        self._best = FAR
        self._end = None

    def settle(self, holder):
        """Give the holder a slot, and raise the prices so far that every holder has its smallest sum."""
        self._ask(holder, None, 0)
        left = self._nearest()
        while left is not None:
            self._passed[left] = self._sums.pop(left)
            holder, cost = self._held[left]
            # Nobody has several slots, but would leave each of them for the same sum: the first one tells all.
            if holder not in self._asked:
                self._ask(holder, left, self._passed[left] - cost - self._rises[left])
            left = self._nearest()
        for slot, total in self._passed.items():
            self._rises[slot] += self._best - total
        self._hand_over()

    def _ask(self, holder, left, before):
        self._asked[holder] = True
        best, sums = self._best, self._sums
        for cost, slot in self._rows[holder]:
            # Prices never fall, so that no later choice can be better, either.
            if before + cost >= best:
                break
            total = before + cost + self._rises[slot]
            if total < best and slot not in self._passed and total < sums.get(slot, FAR):
                self._came[slot] = (holder, cost, left)
                if slot in self._held:
                    sums[slot] = total
                else:
                    best, self._end = total, slot
        self._best = best

    def _nearest(self):
        nearest, limit = None, self._best
        for slot, total in self._sums.items():
            if total < limit:
                nearest, limit = slot, total
        return nearest

    def _hand_over(self):
        slot = self._end
        while slot is not None:
            holder, cost, left = self._came[slot]
            self._held[slot] = (holder, cost)
            slot = left


def cheapest_places(rows, slots):
    """Return the list of the cheapest places, one for each row, and a dict of the prices of the slots.

    A row has (cost, slot) for each slot that an appointment may use. There are more slots than rows, and all rows
    together have a place.
    """
    if not rows:
        return [], {slot: 0 for slot in slots}
    starts = _level_prices(rows, slots)
    choices = _choices(rows, starts)
    if _is_crowded(choices):
        starts = _spread_prices(choices, starts)
        choices = _choices(rows, starts)
    nobody = sorted([(price, slot) for slot, price in starts.items()])
    held = {slot: (len(rows), price) for price, slot in nobody[:len(slots) - len(rows)]}
    rises = {slot: 0 for slot in slots}
    turns = _turns(choices)
    choices.append(nobody)
    for holder in turns:
        Search(choices, held, rises).settle(holder)
    places = {holder: slot for slot, (holder, cost) in held.items()}
    prices = {slot: starts[slot] + rises[slot] for slot in slots}
    lowest = prices[places[len(rows)]]
    return [places[holder] for holder in range(len(rows))], {slot: prices[slot] - lowest for slot in slots}


def _choices(rows, starts):
    return [sorted([(cost + starts[slot], slot) for cost, slot in row]) for row in rows]


def _level_prices(rows, slots):
    # Any prices may come first. These make the slots that will hardly stay free equally good for their cheapest
    # users, so that the rows spread over them. The others, as many as nobody needs, have price 0.
    lowest = {}
    for row in rows:
        for cost, slot in row:
            if cost < lowest.get(slot, FAR):
                lowest[slot] = cost
    top = max(list(lowest.values()))
    level = sorted([lowest.get(slot, top) for slot in slots])[len(rows)]
    return {slot: max(0, level - lowest.get(slot, top)) for slot in slots}


def _is_crowded(choices):
    firsts = [row[0][1] for row in choices if len(row) == 1 or row[0][0] < row[1][0]]
    return len(firsts) > 4 * len(set(firsts))


def _spread_prices(choices, starts):
    # Where nearly all want the same slots, each holder would raise the prices of all before it. So they are guessed:
    # each takes its best slot that is left, at the price at which it is as good as those of the others.
    guess = {}
    for holder in _turns(choices):
        left = [(cost, slot) for cost, slot in choices[holder] if slot not in guess]
        if left:
            guess[left[0][1]] = (holder, left[0][0])
    raises = {slot: 0 for slot in starts if slot not in guess}
    # The first time, those who come later are not known yet.
    for slot, (holder, own) in 2 * list(reversed(list(guess.items()))):
        others = [cost + raises[other] for cost, other in choices[holder] if other in raises and other != slot]
        raises[slot] = max(0, min(others, default=own) - own)
    raised = {slot: starts[slot] + raises[slot] for slot in starts}
    lowest = sorted(list(raised.values()))[len(starts) - len(choices) - 1]
    return {slot: max(0, price - lowest) for slot, price in raised.items()}


def _turns(choices):
    # Those whose second choice is much worse than their first go first: later ones seldom make them go on.
    gaps = [FAR if len(row) == 1 else row[1][0] - row[0][0] for row in choices]
    return [holder for gap, holder in sorted([(-gap, holder) for holder, gap in enumerate(gaps)])]
