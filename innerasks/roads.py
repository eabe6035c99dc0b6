"""Roads: rules that are laid one after the other [54]."""

from innerasks.errors import InvalidCount, NoRoad, TooMany
from innerasks.plantexts import write_plan
from innerasks.rules import NAMES, made_at, made_in, spots_in
from innerasks.values import is_whole

MOST_STEPS = 400
MOST_PLANS = 400
MOST_BETWEEN = 4
# A plan is settled if none of these fits anywhere; the first that does is laid first.
SETTLING = (
    "idle", "vain", "merge", "once", "free", "left inner", "full left", "full right", "single left", "join gone",
    "null anti", "mark semi", "mark anti", "one keep", "no keep", "less", "no number", "one compute", "no order",
    "lots",
)


def follow(schema, plan, road):
    """The plan to which a road leads."""
    if not isinstance(road, (list, tuple)):
        raise NoRoad(0)
    there = plan
    for index, step in enumerate(road):
        made = behind_step(schema, there, step) if index < MOST_STEPS else None
        if made is None:
            raise NoRoad(index)
        there = made
    return there


def behind_step(schema, plan, step):
    """The plan to which a step leads; None if it is none or does not fit."""
    if not isinstance(step, tuple) or len(step) != 2:
        return None
    name, path = step
    if name not in NAMES:
        return None
    made = made_in(schema, plan, name, path)
    return None if made is None else plan.put(path, made)


def is_road(schema, one, other, thing):
    """Whether it is a road that leads from one plan to the other."""
    try:
        return follow(schema, one, thing) == other
    except NoRoad:
        return False


def home(schema, plan):
    """The settled plan, and the road to it."""
    there = plan
    road = []
    step, made = step_home(schema, there)
    while step is not None:
        road.append(step)
        there = made
        step, made = step_home(schema, there)
    return (there, road)


def step_home(schema, plan):
    """The first step of the road home and the plan to which it leads; None for both if the plan is settled."""
    spots = spots_in(schema, plan)
    for name in SETTLING:
        for spot in spots:
            made = made_at(spot, name)
            if made is not None:
                return (name, spot.path), plan.put(spot.path, made)
    return None, None


def road_between(schema, one, other, *, steps=3):
    """The shortest road from one plan to the other, the first one of these; None if there is none."""
    if not is_whole(steps) or not 0 <= steps <= MOST_BETWEEN:
        raise InvalidCount(steps)
    if one == other:
        return []
    met = {write_plan(one): True}
    level = [(one, [])]
    for _ in range(steps):
        beyond = []
        for plan, road in level:
            for step, made in steps_from(schema, plan):
                if made == other:
                    return road + [step]
                text = write_plan(made)
                if text not in met:
                    met[text] = True
                    beyond.append((made, road + [step]))
                if len(met) > MOST_PLANS:
                    raise TooMany(MOST_PLANS)
        level = beyond
    return None


def steps_from(schema, plan):
    """All steps that fit, in order, each with the plan to which it leads."""
    found = []
    for spot in spots_in(schema, plan):
        for name in NAMES:
            made = made_at(spot, name)
            if made is not None:
                found.append(((name, spot.path), plan.put(spot.path, made)))
    return found
