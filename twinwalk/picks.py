"""Programs with picks: what their runs show, and whether each run of the one is one of the other's."""

from twinwalk.between import refuse_no_pair
from twinwalk.errors import TooMany
from twinwalk.findings import MOST_ENTRIES, Stops
from twinwalk.programs import box_sizes, program_of
from twinwalk.runs import beginning_of, every_input, step_at, worths_put

# A state is a tuple (place, worths), worths a tuple.


def picked_program(boxes, inputs, nodes):
    """A program that may have picks, made of the three lists."""
    return program_of(boxes, inputs, nodes)


def first_state(program, inputs):
    return (0, tuple(beginning_of(program, inputs)))


def state_kind(program, state):
    return program[2][state[0]][0]


def silent_steps(program, state):
    """All states behind one by a step that says nothing."""
    place, worths = state
    node = program[2][place]
    if node[0] in ("say", "end"):
        return []
    if node[0] == "pick":
        size = dict(program[0])[node[1]]
        return [(node[2], tuple(worths_put(program, worths, node[1], worth))) for worth in range(size)]
    said, behind, changed = step_at(program, place, worths)
    return [(behind, tuple(changed))]


def settled(program, state):
    """A state from which the same states are behind; at a pick all worths that the box may have are one, 0."""
    place, worths = state
    node = program[2][place]
    if node[0] != "pick":
        return state
    return (place, tuple(worths_put(program, worths, node[1], 0)))


def said_step(program, state):
    """The number that is said at a say, and the state behind it."""
    said, place, worths = step_at(program, state[0], state[1])
    return (said[0], (place, tuple(worths)))


def said_among(program, states):
    """By each number that is said at some of the states the states behind it."""
    told = {}
    for state in states:
        if state_kind(program, state) == "say":
            said, behind = said_step(program, state)
            told.setdefault(said, []).append(behind)
    return told


class Choices:
    """All that a program with picks may do.

    What it may do behind some numbers that it said is a tuple (stops, still): the says and ends that it may come
    to next, sorted, and whether it may go on for ever without coming to any. Each such has a number; 0 is that of
    a program that can't have said these numbers.
    """

    def __init__(self, program):
        self.program = program
        self.stops = Stops(program)
        self.silent = {}
        self.picked = {}
        self.lasting = {}
        self.numbers = {((), False): 0}
        self.ways = [((), False)]
        self.ends = [[]]
        self.begun = {}
        self.heard = {}
        self.moves = {}

    def stop_of(self, state):
        """The next say, end or settled pick from a state on, None where none ever comes."""
        stop = self.stops.stop_from(state[0], state[1])
        return None if stop is None else settled(self.program, stop)

    def silent_behind(self, state):
        """The states behind a settled one by a step that says nothing."""
        if state not in self.silent:
            self.silent[state] = silent_steps(self.program, state)
        return self.silent[state]

    def crowd_from(self, states):
        """All states that may be come to from these without saying anything, these too: a sorted tuple."""
        found, gone, todo = {}, {}, list(states)
        while len(todo) > 0:
            state = todo.pop()
            if state not in found:
                found[state] = True
                here = settled(self.program, state)
                if here not in gone:
                    gone[here] = True
                    todo.extend(self.silent_behind(here))
        return tuple(sorted(found))

    def stops_behind(self, stop):
        """The stops behind a pick; none behind a say or an end."""
        if stop not in self.picked:
            self.picked[stop] = [self.stop_of(state) for state in silent_steps(self.program, stop)]
        return self.picked[stop]

    def stop_lasts(self, stop):
        """Whether a run may go on for ever from a stop on without saying anything."""
        todo = [stop]
        while len(todo) > 0:
            at = todo[-1]
            behind = self.stops_behind(at)
            if at not in self.lasting:
                # None as long as what is behind it is looked at: who comes upon such goes round.
                self.lasting[at] = None
                todo.extend([to for to in behind if to is not None and to not in self.lasting])
            else:
                todo.pop()
                if self.lasting[at] is None:
                    self.lasting[at] = any([to is None or self.lasting[to] is not False for to in behind])
        return self.lasting[stop]

    def may_last(self, state):
        stop = self.stop_of(state)
        return stop is None or self.stop_lasts(stop)

    def way_found(self, states):
        """What the program may do from these states on."""
        found, todo = {}, [self.stop_of(state) for state in states]
        while len(todo) > 0:
            stop = todo.pop()
            if stop is not None and stop not in found:
                found[stop] = True
                todo.extend(self.stops_behind(stop))
        stops = sorted([stop for stop in found if state_kind(self.program, stop) != "pick"])
        return (tuple(stops), any([self.may_last(state) for state in states]))

    def number_for(self, states):
        way = self.way_found(states)
        if way not in self.numbers:
            self.numbers[way] = len(self.ways)
            self.ways.append(way)
            self.ends.append(self.ends_by(way))
        return self.numbers[way]

    def ends_by(self, way):
        """The ends that are shown by one who may do this, by the alphabet."""
        stops, still = way
        ended = any([state_kind(self.program, stop) == "end" for stop in stops])
        return [end for end, shown in (("ends", ended), ("said", True), ("still", still)) if shown]

    def number_from(self, state):
        """The number of what the program may do from one state on."""
        stop = self.stop_of(state)
        if stop not in self.begun:
            self.begun[stop] = self.number_for([state])
        return self.begun[stop]

    def heard_from(self, number):
        """By what may be said next the states behind it."""
        if number not in self.heard:
            self.heard[number] = said_among(self.program, self.ways[number][0])
        return self.heard[number]

    def number_behind(self, number, said):
        """The number of what the program may do where this is said next."""
        if (number, said) not in self.moves:
            self.moves[(number, said)] = self.number_for(self.heard_from(number).get(said, []))
        return self.moves[(number, said)]


def shown_runs(program, inputs, many):
    """All tuples (said, end) that runs show, of at most so many numbers, sorted."""
    choices = Choices(program)
    level, shown = {(): choices.number_from(first_state(program, inputs))}, []
    while len(level) > 0:
        longer = {}
        for said, number in level.items():
            shown.extend([(said, end) for end in choices.ends[number]])
            heard = choices.heard_from(number) if len(said) < many else []
            for spoken in heard:
                longer[said + (spoken,)] = choices.number_behind(number, spoken)
        level = longer
    return sorted(shown)


class Search:
    """Looks for lists that the first program shows and the second one doesn't.

    It goes from two to two, a two being the numbers of what the first one may do from one state on, and of what
    the second one may do that said the same. All twos behind equally long lists are a level; in it a rank tells
    the order of the lists. A two that was there before needs no second look.
    """

    def __init__(self, one, other):
        self.mine = Choices(one)
        self.yours = Choices(other)
        self.parents = {}

    def lost_at(self, two):
        """The ends that the first one shows here and the second one doesn't."""
        found = self.yours.ends[two[1]]
        return [end for end in self.mine.ends[two[0]] if end not in found]

    def twos_behind(self, two):
        """All tuples (said, two) behind one."""
        told = []
        for said, states in self.mine.heard_from(two[0]).items():
            yours = self.yours.number_behind(two[1], said)
            told.extend([(said, (self.mine.number_from(state), yours)) for state in states])
        return told

    def next_level(self, level):
        """The new twos behind a level with their ranks; each has the first of its lists."""
        best = {}
        for two, rank in level.items():
            for said, to in self.twos_behind(two):
                if to not in self.parents and (to not in best or (rank, said) < best[to][0]):
                    best[to] = ((rank, said), two)
        for to, (key, two) in best.items():
            self.parents[to] = (two, key[1])
        keys = sorted(set([key for key, two in best.values()]))
        ranks = {key: rank for rank, key in enumerate(keys)}
        return {to: ranks[key] for to, (key, two) in best.items()}

    def first_lost(self, inputs):
        """The first tuple (said, end) that is lost at these inputs, None where none is."""
        begun = (self.mine.number_from(first_state(self.mine.program, inputs)),
                 self.yours.number_from(first_state(self.yours.program, inputs)))
        level = {} if begun in self.parents else {begun: 0}
        self.parents.setdefault(begun, None)
        while len(level) > 0:
            lost = [(rank, end, two) for two, rank in level.items() for end in self.lost_at(two)]
            if len(lost) > 0:
                rank, end, two = min(lost)
                return (self.said_to(two), end)
            level = self.next_level(level)
        return None

    def said_to(self, two):
        """What is said on the way to a two."""
        told = []
        while self.parents[two] is not None:
            two, said = self.parents[two]
            told.append(said)
        return tuple(told[::-1])


class Answers:
    """The crowds of a paper of answers, each with a number, so that a large one is looked through once.

    An answer is told as a tuple (state, number of the crowd).
    """

    def __init__(self, one, other):
        self.mine = Choices(one)
        self.yours = Choices(other)
        self.numbers = {}
        self.crowds = []
        self.heard = {}
        self.moves = {}
        self.ways = {}

    def number_of(self, crowd):
        if crowd not in self.numbers:
            self.numbers[crowd] = len(self.crowds)
            self.crowds.append(crowd)
        return self.numbers[crowd]

    def first_answer(self, inputs):
        begun = first_state(self.yours.program, inputs)
        return (first_state(self.mine.program, inputs), self.number_of(self.yours.crowd_from([begun])))

    def crowd_behind(self, number, said):
        """The number of the crowd behind a crowd where this is said."""
        if number not in self.heard:
            self.heard[number] = said_among(self.yours.program, self.crowds[number])
        if (number, said) not in self.moves:
            behind = self.yours.crowd_from(self.heard[number].get(said, []))
            self.moves[(number, said)] = self.number_of(behind)
        return self.moves[(number, said)]

    def answers_behind(self, answer):
        state, number = answer
        if state_kind(self.mine.program, state) == "say":
            said, behind = said_step(self.mine.program, state)
            return [(behind, self.crowd_behind(number, said))]
        return [(behind, number) for behind in silent_steps(self.mine.program, state)]

    def ways_of(self, number):
        """Whether some of a crowd is at an end, and whether some may go on for ever without saying anything."""
        if number not in self.ways:
            crowd = self.crowds[number]
            ended = any([state_kind(self.yours.program, state) == "end" for state in crowd])
            self.ways[number] = (ended, any([self.yours.may_last(state) for state in crowd]))
        return self.ways[number]


def answers_come_to(one, other):
    """The paper of answers of all that is come to, sorted."""
    answers, come = Answers(one, other), {}
    for inputs in every_input(one):
        todo = [answers.first_answer(inputs)]
        while len(todo) > 0:
            answer = todo.pop()
            if answer not in come:
                if len(come) == MOST_ENTRIES:
                    raise TooMany(f"more than {MOST_ENTRIES} answers are come to")
                come[answer] = True
                todo.extend(answers.answers_behind(answer))
    return sorted([(state[0], state[1], answers.crowds[number]) for state, number in come])


def within_told(one, other):
    """A paper of answers, or the first inputs, list and end that the first program shows and the second doesn't."""
    refuse_no_pair(one, other)
    search = Search(one, other)
    for inputs in every_input(one):
        lost = search.first_lost(inputs)
        if lost is not None:
            return ("without", inputs) + lost
    return ("within", answers_come_to(one, other))


def state_fits(program, state):
    """Whether place and worths are such of the program."""
    place, worths = state
    sizes = box_sizes(program)
    if place < 0 or place >= len(program[2]) or len(worths) != len(sizes):
        return False
    return all([0 <= worth < size for worth, size in zip(worths, sizes)])


def crowd_fits(yours, crowd):
    """Whether a crowd is sorted, each state once, with all that is come to from it without saying anything."""
    return all([state_fits(yours.program, state) for state in crowd]) and yours.crowd_from(crowd) == crowd


def answer_well(answers, paper, answer):
    """Whether all behind an answer is in the paper, and the crowd may end, or go on for ever, if the first one may."""
    state, number = answer
    for behind in answers.answers_behind(answer):
        if behind not in paper or len(answers.crowds[behind[1]]) == 0:
            return False
    ends, lasts = answers.ways_of(number)
    if state_kind(answers.mine.program, state) == "end" and not ends:
        return False
    return lasts or not answers.mine.may_last(state)


def answers_show(one, other, paper):
    """Whether a paper of answers is let by for a pair."""
    refuse_no_pair(one, other)
    answers, known = Answers(one, other), {}
    for place, worths, crowd in paper:
        known[((place, worths), answers.number_of(crowd))] = True
    if not all([state_fits(one, state) for state, number in known]):
        return False
    if not all([crowd_fits(answers.yours, crowd) for crowd in answers.crowds]):
        return False
    for inputs in every_input(one):
        if answers.first_answer(inputs) not in known:
            return False
    return all([answer_well(answers, known, answer) for answer in known])
