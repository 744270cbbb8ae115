"""Hearings: matters laid on days, in slots and rooms, or a least set that can't be laid."""

from itertools import combinations

from heardhouse.days import first_open, is_calendar, is_day, is_open
from heardhouse.errors import NoLaying, NoMatter, NoPlan
from heardhouse.kinds import are_names, is_name, is_row, is_whole

# The places of a matter's parts.
NAME = 0
PEOPLE = 1
LENGTH = 2
FIRST = 3
LAST = 4
PARTS = 5


def lay(plan, matters):
    """Tell the first laying of the matters, or None."""
    check_plan(plan)
    check_matters(matters)
    return laid_behind(plan, matters, [])


def lay_more(plan, matters, laying):
    """Tell the first laying of the matters that begins with a laying, or None."""
    check_plan(plan)
    check_matters(matters)
    check_laying(plan, matters, laying)
    return laid_behind(plan, matters, laying)


def clash(plan, matters):
    """Tell the names of a least set of matters that can't be laid, or None."""
    check_plan(plan)
    check_matters(matters)
    hall = Hall(plan, matters, [])
    for many in range(1, len(matters) + 1):
        for places in combinations(range(len(matters)), many):
            if not hall.holds({}, places):
                return [matters[place][NAME] for place in places]
    return None


def is_laying(plan, matters, thing):
    """Tell of anything whether it is a laying of the matters."""
    check_plan(plan)
    check_matters(matters)
    return are_laid(plan, matters, thing)


def check_plan(plan):
    """Refuse what is no plan."""
    if not is_plan(plan):
        raise NoPlan()


def check_matters(matters):
    """Refuse what is no list of matters with unlike names."""
    if not isinstance(matters, list) or not all([is_matter(matter) for matter in matters]):
        raise NoMatter()
    if len({matter[NAME] for matter in matters}) < len(matters):
        raise NoMatter()


def check_laying(plan, matters, laying):
    """Refuse what is no laying of so many first matters."""
    if not isinstance(laying, list) or not are_laid(plan, matters[:len(laying)], laying):
        raise NoLaying()


def is_plan(thing):
    """Tell whether a thing is a plan."""
    if not is_row(thing, 3):
        return False
    calendar, rooms, slots = thing
    return is_calendar(calendar) and is_whole(rooms, 1) and is_whole(slots, 1)


def is_matter(thing):
    """Tell whether a thing is a matter."""
    if not is_row(thing, PARTS):
        return False
    name, people, length, first, last = thing
    if not is_name(name) or not are_names(people) or len(people) == 0:
        return False
    return is_whole(length, 1) and is_day(first) and is_day(last) and first <= last


def are_laid(plan, matters, thing):
    """Tell whether a thing is a laying of matters that are known to be good."""
    if not isinstance(thing, list) or len(thing) != len(matters):
        return False
    if not all([is_laid(plan, matter, row) for matter, row in zip(matters, thing)]):
        return False
    spots = [(day, (matter, slot, room)) for matter, (_, day, slot, room) in zip(matters, thing)]
    for one, other in combinations(spots, 2):
        if one[0] == other[0] and meet(one[1], other[1]):
            return False
    return True


def is_laid(plan, matter, thing):
    """Tell whether a thing lays a matter within its days and the plan."""
    if not is_row(thing, 4):
        return False
    name, day, slot, room = thing
    if not isinstance(name, str) or name != matter[NAME]:
        return False
    if not is_whole(day, matter[FIRST]) or not is_whole(slot, 0) or not is_whole(room, 0):
        return False
    calendar, rooms, slots = plan
    return day <= matter[LAST] and is_open(calendar, day) and slot + matter[LENGTH] <= slots and room < rooms


def meet(one, other):
    """Tell whether two tuples (matter, slot, room) of one day want a room or one of the people at once."""
    matter, slot, room = one
    rival, rival_slot, rival_room = other
    if slot + matter[LENGTH] <= rival_slot or rival_slot + rival[LENGTH] <= slot:
        return False
    return room == rival_room or share_people(matter, rival)


def laid_behind(plan, matters, laying):
    """Tell the first laying of the matters that begins with a good laying, or None."""
    hall = Hall(plan, matters, laying)
    held = {}
    for matter, (_, day, slot, room) in zip(matters, laying):
        held = with_spot(held, day, (matter, slot, room))
    if not hall.holds(held, list(range(len(laying), len(matters)))):
        return None
    told = list(laying)
    for place in range(len(laying), len(matters)):
        # All that are left can be laid, so there is always such a spot.
        day, spot = hall.first_spot(held, place)
        held = with_spot(held, day, spot)
        told.append((matters[place][NAME], day, spot[1], spot[2]))
    return told


def with_spot(held, day, spot):
    """Tell what is held on each day with one more spot, a tuple (matter, slot, room)."""
    return {**held, day: held.get(day, ()) + (spot,)}


class Hall:
    """Where and when matters can be laid beside those that are held already.

    Whatever the rest does, a matter finds a day and a room that no other has among its first ones,
    as many as there are matters, and can begin with the day or where another ends. So the first
    laying looks no further, and where such spots are not enough there is no laying.
    """

    def __init__(self, plan, matters, laying):
        calendar, rooms, slots = plan
        many = len(matters)
        self.matters = list(matters)
        self.rooms = min(rooms, many)
        starts = starts_of(slots, matters, laying)
        self.starts = [[start for start in starts if start + matter[LENGTH] <= slots] for matter in matters]
        self.days = [hearing_days(calendar, slots, matter, many) for matter in matters]
        # What fitted together or not, since days on which the same is held are alike.
        self.fitting = {}
        self.timely = {}

    def holds(self, held, places):
        """Tell whether the matters of some places can be laid beside what is held."""
        # Who has the fewest days goes first, so that what can't be is seen soon.
        order = sorted([(len(self.days[place]), -self.matters[place][LENGTH], place) for place in places])
        return self.shares_out(held, {}, tuple([place for _, _, place in order]))

    def shares_out(self, held, groups, places):
        """Tell whether matters can be added to the groups of their days so that each group fits."""
        if not places:
            return True
        place = places[0]
        for day in self.days[place]:
            group = groups.get(day, ()) + (place,)
            if self.fits(held.get(day, ()), group) and self.shares_out(held, {**groups, day: group}, places[1:]):
                return True
        return False

    def fits(self, spots, group):
        """Tell whether a group of matters can be laid on one day beside the spots that are held."""
        if not group:
            return True
        if (spots, group) not in self.fitting:
            # Time alone is soon reckoned, and mostly it is time that is short.
            self.fitting[(spots, group)] = self.has_time(spots, group) and self.has_spots(spots, group)
        return self.fitting[(spots, group)]

    def has_time(self, spots, group):
        """Tell whether a group fits where matters may change their rooms from slot to slot."""
        levels = (0,) * self.rooms
        for matter, slot, _ in spots:
            levels = piled(levels, span(matter, slot))
        shut = []
        for place in group:
            shut.append(0)
            for matter, slot, _ in spots:
                if share_people(matter, self.matters[place]):
                    shut[-1] |= span(matter, slot)
        return self.finds_time(group, tuple(shut), levels)

    def finds_time(self, group, shut, levels):
        """Tell whether a group finds slots outside those that are shut for each or full for all."""
        if not group:
            return True
        if (group, shut, levels) not in self.timely:
            self.timely[(group, shut, levels)] = self.finds_first(group, shut, levels)
        return self.timely[(group, shut, levels)]

    def finds_first(self, group, shut, levels):
        """Tell whether the first of a group finds slots beside which the others find theirs."""
        matter, rest = self.matters[group[0]], group[1:]
        rivals = [share_people(matter, self.matters[place]) for place in rest]
        for start in self.starts[group[0]]:
            slots = span(matter, start)
            if slots & (shut[0] | levels[-1]) == 0:
                left = tuple([taken | slots if rival else taken for taken, rival in zip(shut[1:], rivals)])
                if self.finds_time(rest, left, piled(levels, slots)):
                    return True
        return False

    def has_spots(self, spots, group):
        """Tell whether the first of a group has a spot beside which the others fit."""
        for spot in self.free_spots(spots, group[0]):
            if self.fits(spots + (spot,), group[1:]):
                return True
        return False

    def free_spots(self, spots, place):
        """Tell the spots of a matter on a day that meet none of those that are held, rising."""
        matter = self.matters[place]
        rooms = rooms_unlike(self.rooms, [room for _, _, room in spots])
        wanted = [(matter, slot, room) for slot in self.starts[place] for room in rooms]
        return [spot for spot in wanted if not any([meet(spot, other) for other in spots])]

    def first_spot(self, held, place):
        """Tell the first day and spot of a matter beside which all behind it can be laid, or None."""
        behind = list(range(place + 1, len(self.matters)))
        for day in self.days[place]:
            for spot in self.free_spots(held.get(day, ()), place):
                if self.holds(with_spot(held, day, spot), behind):
                    return day, spot
        return None


def span(matter, slot):
    """Tell the slots of a matter, each a bit of a number."""
    return ((1 << matter[LENGTH]) - 1) << slot


def piled(levels, slots):
    """Tell which slots are taken once, twice and so on, with some that are taken once more."""
    told = []
    for level in levels:
        told.append(level | slots)
        slots = level & slots
    return tuple(told)


def share_people(one, other):
    """Tell whether two matters share one of the people."""
    return any([name in other[PEOPLE] for name in one[PEOPLE]])


def starts_of(slots, matters, laying):
    """Tell the slots at which some matter could begin because others end there, rising."""
    ends = [slot + matter[LENGTH] for matter, (_, _, slot, _) in zip(matters, laying)]
    reached = {end: True for end in [0] + ends if end < slots}
    for matter in matters[len(laying):]:
        for start in list(reached):
            if start + matter[LENGTH] < slots:
                reached[start + matter[LENGTH]] = True
    return sorted(reached)


def hearing_days(calendar, slots, matter, many):
    """Tell the first so many open days of a matter, none where it is longer than a day."""
    days = []
    if matter[LENGTH] > slots:
        return days
    day = first_open(calendar, matter[FIRST])
    while day <= matter[LAST] and len(days) < many:
        days.append(day)
        day = first_open(calendar, day + 1)
    return days


def rooms_unlike(rooms, used):
    """Tell the rooms that are used and the first one that is not, since unused ones are alike."""
    fresh = [room for room in range(rooms) if room not in used][:1]
    return [room for room in range(rooms) if room in used or room in fresh]
