"""The document's points 8 to 21 once more, word by word and without the package: what it tells is compared with."""


class Refused(Exception):
    """Refused with the class of this name."""


class Model:
    def __init__(self, world):
        self.now, self.term = world[:2]
        self.logs = [list(log) for log in world[2]]
        self.notices = [{notice[0]: notice for notice in notices} for notices in world[3]]
        self.down = set(world[4])
        self.side = set(world[5])
        self.yard = list(world[6])
        self.many = len(self.logs)

    def world(self):
        return (self.now, self.term, tuple(map(tuple, self.logs)),
                tuple(tuple(notices[name] for name in sorted(notices)) for notices in self.notices),
                tuple(sorted(self.down)), tuple(sorted(self.side)), tuple(self.yard))

    # Logs.

    def word(self, house, name):
        log = self.logs[house]
        places = [at for at, entry in enumerate(log) if entry[:2] == ("word", name)]
        if not places:
            return None
        word = log[places[-1]]
        if ("free", name, word[2], word[3]) in log[places[-1]:]:
            return None
        return word[2:]

    def claim(self, house, name):
        asks = [entry for entry in self.logs[house] if entry[:2] == ("ask", name)]
        if not asks:
            return None
        number = max(entry[2] for entry in asks)
        if ("back", name, number) in self.logs[house]:
            return None
        asks = [entry for entry in asks if entry[2] == number]
        words = self.words(house, name, number)
        noes = sorted({entry[3] for entry in self.logs[house] if entry[:3] == ("no", name, number)} - set(words))
        return (number, asks[-1][3], max(entry[4] for entry in asks), words, noes)

    def words(self, house, name, number):
        words = {}
        for entry in sorted(self.logs[house], key=lambda entry: entry[-1] if entry[0] == "got" else 0):
            if entry[:3] == ("got", name, number):
                words[entry[3]] = entry[4]
        return words

    def reach(self, words):
        """The greatest round above which at least the needed words do not run out."""
        return max([until for until in words.values()
                    if 2 * len([other for other in words.values() if other >= until]) > self.many] + [0])

    def is_to_be_had(self, house, name, number, asker, until):
        word = self.word(house, name)
        return word is None or word[2] <= self.now or (word[:2] == (asker, number) and word[2] < until)

    # Letters.

    def others(self, house):
        return sorted(set(range(self.many)) - {house})

    def notice(self, house, notice):
        old = self.notices[house].get(notice[0])
        if old is None or notice[4] >= old[4]:
            self.notices[house][notice[0]] = notice

    def get(self, house, name, number, giver, until):
        """A got entry, with what follows of it where the needed words reach farther."""
        ahead = self.reach(self.words(house, name, number))
        self.logs[house].append(("got", name, number, giver, until))
        if self.reach(self.words(house, name, number)) > max(ahead, self.now):
            person = self.claim(house, name)[1]
            self.notice(house, (name, house, number, person, self.now))
            return [("told", house, other, name, number, person, self.now) for other in self.others(house)]
        return []

    def take(self, letter):
        kind, sender, house, name, number = letter[:5]
        getattr(self, "take_" + kind)(letter, sender, house, name, number)

    def take_ask(self, letter, sender, house, name, number):
        until = letter[6]
        if until <= self.now:
            return
        word = self.word(house, name)
        if self.is_to_be_had(house, name, number, sender, until):
            self.logs[house].append(("word", name, sender, number, until))
            self.yard.append(("word", house, sender, name, number, until))
        elif word[:2] == (sender, number):
            self.yard.append(("word", house, sender, name, number, word[2]))
        else:
            self.yard.append(("no", house, sender, name, number))

    def take_word(self, letter, sender, house, name, number):
        claim = self.claim(house, name)
        if claim is None or claim[0] != number:
            self.yard.append(("back", house, sender, name, number))
        elif claim[3].get(sender, 0) < letter[5]:
            self.yard.extend(self.get(house, name, number, sender, letter[5]))

    def take_no(self, letter, sender, house, name, number):
        claim = self.claim(house, name)
        if claim is not None and claim[0] == number and sender not in claim[4] and sender not in claim[3]:
            self.logs[house].append(("no", name, number, sender))

    def take_back(self, letter, sender, house, name, number):
        word = self.word(house, name)
        if word is not None and word[:2] == (sender, number):
            self.logs[house].append(("free", name, sender, number))

    def take_told(self, letter, sender, house, name, number):
        self.notice(house, (name, sender, number, letter[5], letter[6]))

    # Deeds.

    def refuse(self, deed):
        kind = deed[0]
        if kind in ("carry", "copy", "lose") and deed[1] >= len(self.yard):
            raise Refused("NoLetter")
        letter = self.yard[deed[1]] if kind == "carry" else None
        if kind in ("claim", "renew", "back", "fall") and deed[1] in self.down:
            raise Refused("Down")
        if letter is not None and letter[2] in self.down:
            raise Refused("Down")
        if kind == "rise" and deed[1] not in self.down:
            raise Refused("Up")
        if letter is not None and len(self.side & {letter[1], letter[2]}) == 1:
            raise Refused("NoLetter")
        if kind in ("claim", "renew", "back"):
            claim = self.claim(deed[1], deed[2])
            runs = claim is not None and claim[2] > self.now
            if kind == "claim" and runs:
                raise Refused("Busy")
            if kind != "claim" and not runs:
                raise Refused("NoClaim")

    def do(self, deed):
        self.refuse(deed)
        getattr(self, "do_" + deed[0])(*deed[1:])

    def do_claim(self, house, name, person):
        number = max([entry[2] for entry in self.logs[house] if entry[0] == "ask"] + [0]) + 1
        self.ask(house, name, number, person)

    def do_renew(self, house, name):
        number, person = self.claim(house, name)[:2]
        self.ask(house, name, number, person)

    def ask(self, house, name, number, person):
        until = self.now + self.term
        self.logs[house].append(("ask", name, number, person, until))
        told = []
        claim = self.claim(house, name)
        word = self.word(house, name)
        if self.is_to_be_had(house, name, number, house, until):
            self.logs[house].append(("word", name, house, number, until))
            told = self.get(house, name, number, house, until)
        elif word[:2] != (house, number) and house not in claim[3] and house not in claim[4]:
            self.logs[house].append(("no", name, number, house))
        self.yard += [("ask", house, other, name, number, person, until) for other in self.others(house)] + told

    def do_back(self, house, name):
        number = self.claim(house, name)[0]
        word = self.word(house, name)
        self.logs[house].append(("back", name, number))
        if word is not None and word[:2] == (house, number):
            self.logs[house].append(("free", name, house, number))
        self.yard += [("back", house, other, name, number) for other in self.others(house)]

    def do_carry(self, place):
        self.take(self.yard.pop(place))

    def do_copy(self, place):
        self.yard.append(self.yard[place])

    def do_lose(self, place):
        del self.yard[place]

    def do_fall(self, house):
        self.down.add(house)
        self.notices[house] = {}

    def do_rise(self, house):
        self.down.remove(house)

    def do_part(self, houses):
        self.side = set(houses)

    def do_heal(self):
        self.side = set()

    def do_round(self):
        self.now += 1

    # What is told of a world.

    def holders(self, name):
        """All claims that have the name: the promise is that they are one at most."""
        found = []
        for house in range(self.many):
            claim = self.claim(house, name)
            if claim is not None:
                running = [until for until in claim[3].values() if until > self.now]
                if 2 * len(running) > self.many:
                    found.append((house, claim[0], claim[1]))
        return found

    def paper(self, name):
        for house, number, person in self.holders(name):
            words = self.words(house, name, number)
            return (name, house, number, person,
                    tuple((giver, words[giver]) for giver in sorted(words) if words[giver] > self.now))
        return None

    def shows(self, paper):
        name, house, number, person, words = paper
        givers = [giver for giver, until in words]
        if 2 * len(set(givers)) <= self.many or sorted(set(givers)) != givers:
            return False
        for giver, until in words:
            word = self.word(giver, name)
            if word is None or word[:2] != (house, number) or not self.now < until <= word[2]:
                return False
        asks = [entry for entry in self.logs[house] if entry[:4] == ("ask", name, number, person)]
        return asks != [] and ("back", name, number) not in self.logs[house]

    def look(self, house, name, age):
        if house in self.down:
            raise Refused("Down")
        notice = self.notices[house].get(name)
        if notice is None or self.now - notice[4] > age:
            return None
        return (notice[3], notice[1], notice[4])

    def ages(self, name):
        return [self.now - notices[name][4] if name in notices else None for notices in self.notices]

    def quiet_round(self):
        while True:
            for place, letter in enumerate(self.yard):
                if letter[2] not in self.down and len(self.side & {letter[1], letter[2]}) != 1:
                    self.do(("carry", place))
                    break
            else:
                self.do(("round",))
                return

    def barred(self, name):
        words = [self.word(house, name) for house in range(self.many)]
        untils = [word[2] for word in words if word] + [letter[6] for letter in self.yard
                                                        if letter[0] == "ask" and letter[3] == name]
        return max([until - self.now for until in untils if until > self.now] + [0])

    def claim_surely(self, house, name, person):
        self.do(("heal",))
        for other in sorted(self.down):
            self.do(("rise", other))
        for step in range(self.term):
            self.quiet_round()
        self.do(("claim", house, name, person))
        number = self.claim(house, name)[0]
        self.quiet_round()
        return number
