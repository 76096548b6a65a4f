"""The worths of ways: of one way, of all ways of so many roads, and of all ways."""

from waysum.errors import NoNet, NoRoad, NoSteps
from waysum.kinds import Chances, Counted
from waysum.nets import Net, check_place
from waysum.shares import divisor, lowest

MOST_STEPS = 40


def worth_of(net, place, row):
    check_place(net, place)
    kind = net.kind()
    roads = net.roads()
    here = place
    worth = kind.rest()
    for number in row:
        if number < 0 or number >= len(roads):
            raise NoRoad(f"{number} is no road of the net")
        road = roads[number]
        if road[0] != here:
            raise NoRoad(f"road {number} doesn't go from place {here}")
        here = road[1]
        worth = kind.behind(worth, road[2])
    return (here, worth)


def by_steps(net, place, other, steps):
    check_place(net, place)
    check_place(net, other)
    if steps < 0 or steps > MOST_STEPS:
        raise NoSteps(f"ways are told of 0 to 40 roads, not of {steps}")
    if isinstance(net.kind(), Chances):
        return chance_by_steps(net, place, other, steps)
    return stepped(net.kind(), net.places(), net.roads(), place, steps)[other]


def stepped(kind, places, roads, place, steps):
    worths = [kind.none()] * places
    worths[place] = kind.rest()
    for step in range(steps):
        further = [kind.none()] * places
        for road in roads:
            longer = kind.behind(worths[road[0]], road[2])
            further[road[1]] = kind.together(further[road[1]], longer)
        worths = further
    return worths


def chance_by_steps(net, place, other, steps):
    # Shares grow so long that to bring them to lowest terms at each road of 40 steps may take minutes.
    # So all roads' shares get one second number, the first ones are counted, and lowest terms are sought once.
    below = common_second(net.roads())
    parts = [(road[0], road[1], road[2][0] * (below // road[2][1])) for road in net.roads()]
    counts = stepped(Counted(), net.places(), parts, place, steps)
    below_all = 1
    for step in range(steps):
        below_all = below_all * below
    return lowest(counts[other], below_all)


def common_second(roads):
    below = 1
    for road in roads:
        below = below // divisor(below, road[2][1]) * road[2][1]
    return below


def straight(net):
    # Of each ordered pair of places: what the ways of just one road come to.
    kind = net.kind()
    rows = [[kind.none()] * net.places() for place in range(net.places())]
    for road in net.roads():
        row = rows[road[0]]
        row[road[1]] = kind.together(row[road[1]], road[2])
    return rows


def led_through(kind, rows, middle):
    # The rows tell of ways through some inner places; told is what they come to if the middle may be one too.
    onward = rows[middle]
    ring = kind.rounds(onward[middle])
    led = []
    for row in rows:
        toward = kind.behind(row[middle], ring)
        led.append([kind.together(worth, kind.behind(toward, onward[at])) for at, worth in enumerate(row)])
    return led


def table(net):
    kind = net.kind()
    rows = straight(net)
    for place in range(net.places()):
        rows = led_through(kind, rows, place)
    # The empty row comes in last: counted on the way it would be a ring at each place.
    for place in range(net.places()):
        rows[place][place] = kind.together(kind.rest(), rows[place][place])
    return rows


def total(net, place, other):
    check_place(net, place)
    check_place(net, other)
    # A sum is refused wherever the table is, so the whole table is asked for.
    return table(net)[place][other]


def without(net, place):
    if net.places() == 1:
        raise NoNet("the one place of a net can't be taken out")
    check_place(net, place)
    kind = net.kind()
    rows = led_through(kind, straight(net), place)
    left = [each for each in range(net.places()) if each != place]
    roads = []
    for start, one in enumerate(left):
        for end, other in enumerate(left):
            if rows[one][other] != kind.none():
                roads.append((start, end, rows[one][other]))
    return Net(kind, len(left), roads)
