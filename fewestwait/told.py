"""Which rules make just what was seen."""

from fewestwait.days import check_plan
from fewestwait.lines import check_choices, round_choices, shortest_choices
from fewestwait.rules import minutes_of_rules, plan_of, rule_called

RULES = ("shortest", "first", "longest", "turns")


def rules_for(day, plan):
    """Return the names of the rules whose plan for the day is just this list."""
    check_plan(day, plan)
    # A rule's plan has a minute for each one of the works, however great: it is made only for as long a list.
    if len(plan) != minutes_of_rules(day):
        return []
    return [name for name in RULES if plan_of(rule_called(name), day) == plan]


def choices_for(lines, events, choices):
    """Return the names of the rules for lines whose choices are just these."""
    check_choices(lines, events, choices)
    names = []
    if choices == shortest_choices(lines, events):
        names.append("shortest")
    if choices == round_choices(lines, events):
        names.append("round")
    return names
