"""How many people there are, by who was seen to say what."""

from math import gcd

from buzzround.checks import check_counts, check_look_number, check_looks, check_most


def people_for(rules, looks, most):
    """The numbers of people, up to most, of which each look (number, person) tells who says the number."""
    check_looks(looks)
    check_most(most)
    least = 1
    # A number of people fits a look if it divides what lies between the place and the person.
    between = 0
    for number, person in looks:
        least = max(least, person + 1)
        between = gcd(between, rules.course(number - 1).move - person)
    return [people for people in range(least, most + 1) if between % people == 0]


def least_look(rules, counts, number):
    """The least number up to this one that each of some numbers of people gives another speaker, None if none is."""
    check_counts(counts)
    check_look_number(number)
    for seen in range(1, number + 1):
        found = rules.course(seen - 1).move
        if len({found % people for people in counts}) == len(counts):
            return seen
    return None
