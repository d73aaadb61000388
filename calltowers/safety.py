"""Safety: that a program never comes to a configuration that a danger accepts, and the judge of this (point 44)."""

from calltowers.dangers import DangerWatch, have_common
from calltowers.journeys import journey_through
from calltowers.pushdowns import head_of, rules_of
from calltowers.routes import Routes
from calltowers.stacks import accepts, successors, takes_forwards


def safety(program, danger):
    """("reached", a tale with the fewest rules that leads into the danger) or ("safe", a machine that shows this)."""
    journey = journey_through(program)
    watch = DangerWatch(danger, journey)
    routes = Routes(watch.place_steps(), journey.plays, watch.first_places())
    reached = [(routes.distance[place], place) for place in routes.distance if watch.is_reached(place)]
    ends = [(journey.plays.lengths[ending], ending) for ending in watch.ends_reached()]
    if reached and (not ends or min(reached)[0] <= min(ends)[0]):
        return ("reached", journey.tale(routes.row_to(min(reached)[1])))
    if ends:
        return ("reached", journey.tale(journey.plays.row_of(min(ends)[1])))
    return ("safe", all_reached(program))


def all_reached(program):
    """The machine that accepts exactly the configurations to which a program can come."""
    state, symbol = head_of(program)
    return successors(rules_of(program), (((state, symbol, "end"),), ("end",)))


def takes_safety(program, danger, machine):
    """Whether a machine shows that a program never comes to a configuration that the danger accepts."""
    rules = rules_of(program)
    state, symbol = head_of(program)
    if not accepts(machine, (state, (symbol,))) or not takes_forwards(rules, machine):
        return False
    states = {near: True for p, _, q, _, _ in rules for near in (p, q)}
    return not have_common(machine, danger, list(states))
