"""Observations: which of several effects are possible, and on which stack they differ most."""

from stackeffect.differences import by_height
from stackeffect.effects import Effect, replaced
from stackeffect.errors import InvalidCandidates, InvalidObservation
from stackeffect.words import check_word, is_word

MOST_CANDIDATES = 20


def are_candidates(value):
    """Return whether any value is a list of candidates."""
    if not isinstance(value, list) or not 1 <= len(value) <= MOST_CANDIDATES:
        return False
    return all([isinstance(effect, Effect) for effect in value])


def check_candidates(candidates):
    """Raise InvalidCandidates unless the value is a list of candidates."""
    if not are_candidates(candidates):
        raise InvalidCandidates(candidates)


def is_observation(value):
    """Return whether any value is an observation."""
    if not isinstance(value, tuple) or len(value) != 2:
        return False
    stack, result = value
    return is_word(stack) and (result is None or is_word(result))


def check_observations(observations):
    """Raise InvalidObservation unless the value is a list of observations."""
    if not isinstance(observations, list):
        raise InvalidObservation(None)
    for index, observation in enumerate(observations):
        if not is_observation(observation):
            raise InvalidObservation(index)


def gives_all(effect, observations):
    """Return whether an effect gives all observed results."""
    return all([replaced(effect, stack) == result for stack, result in observations])


def possible(candidates, observations):
    """Return the ascending list of the indexes of the candidates that give all observed results."""
    check_candidates(candidates)
    check_observations(observations)
    return [index for index, effect in enumerate(candidates) if gives_all(effect, observations)]


def indexes_by_result(candidates, stack):
    """Return a dict from the results of the candidates on a stack to the ascending lists of their indexes."""
    indexes = {}
    for index, effect in enumerate(candidates):
        indexes.setdefault(replaced(effect, stack), []).append(index)
    return indexes


def outcomes(candidates, stack):
    """Return the results of the candidates on a stack, None first, each with its list of indexes."""
    check_candidates(candidates)
    check_word(stack)
    indexes = indexes_by_result(candidates, stack)
    results = sorted([result for result in indexes if result is not None], key=by_height)
    if None in indexes:
        results = [None] + results
    return [(result, indexes[result]) for result in results]


def largest_many(candidates, stack):
    """Return the length of the largest list of indexes on a stack."""
    return max([len(indexes) for indexes in indexes_by_result(candidates, stack).values()])


def best_stack(candidates):
    """Return the first stack whose largest list of indexes is smallest, after the length of this list."""
    check_candidates(candidates)
    # What is below the longest pops that a stack begins with makes no difference to which results are equal.
    stacks = [()] + [effect.pops for effect in candidates if not effect.is_never]
    best = min([(largest_many(candidates, stack), by_height(stack)) for stack in stacks])
    return best[0], best[1][1]
