"""Numbers: how many crates are needed, and where they lie at first."""

from treeandtrip.basics import check_place
from treeandtrip.terms import made_terms, three_numbers
from treeandtrip.trees import days_in_all, days_of_longest, hung_from, least_legs, made_tree
from treeandtrip.webs import made_web


def summands_by(terms, legs):
    """The summands for good terms and the legs of a tree."""
    k, longest_out, told = three_numbers(terms)
    return k, days_in_all(legs), days_of_longest(legs), longest_out, told


def reserve_by(summands_told):
    """The days for which the root of a house keeps crates in reserve."""
    longest, longest_out, told = summands_told[2:]
    return longest_out + max(0, longest - told)


def crates_by(summands_told):
    """How many crates these summands call for."""
    return summands_told[0] * (summands_told[1] + reserve_by(summands_told))


def reserve(web, terms, tree):
    """H: the longest loan, and what the longest leg of the tree takes beyond the notice."""
    good = made_terms(web, terms)
    return reserve_by(summands_by(good, made_tree(web, tree)))


def tree_needed(web, terms, tree):
    """How many crates a house on this tree needs."""
    good = made_terms(web, terms)
    return crates_by(summands_by(good, made_tree(web, tree)))


def needed(web, terms):
    """The least number of crates with which nobody is ever refused."""
    return crates_by(summands(web, terms))


def summands(web, terms):
    """`(k, length, longest, L, j)`, with the length and the longest leg of the least tree."""
    good = made_terms(web, terms)
    n, ways = made_web(web)
    return summands_by(good, least_legs(n, ways))


def first_hands(web, terms, tree, root):
    """How many crates a house on this tree has at each place at first."""
    good = made_terms(web, terms)
    legs = made_tree(web, tree)
    n, _ = made_web(web)
    check_place(n, root, 0)
    told = summands_by(good, legs)
    above = hung_from(legs, root)
    days = [reserve_by(told) if place == root else above[place][1] for place in range(n)]
    return tuple([told[0] * many for many in days])
