"""Questions that find a failed part: as few as can do, and what shows that fewer can't."""

from faultwood.bits import all_bits, is_bits, many_in, parts_in
from faultwood.errors import BadSets, NoPlan, TooMany
from faultwood.shares import is_whole
from faultwood.trees import is_word

MOST_PARTS = 12
MOST_QUESTIONS = 12
MOST_DEEP = 20
MOST_TREES = 500

# With more of either, what shows that fewer questions can't do may be far too long to tell.
MOST_PARTS_ASKED = 8
MOST_QUESTIONS_ASKED = 8


def need_questions(many, questions):
    """Refuse what is no number of parts, and what are no questions about so many."""
    if not is_whole(many) or not 1 <= many <= MOST_PARTS:
        raise BadSets("this is no number of parts")
    if not isinstance(questions, tuple) or not 1 <= len(questions) <= MOST_QUESTIONS:
        raise BadSets("these are no questions")
    if not all(is_bits(asked, many) for asked in questions):
        raise BadSets("one of these is no set of so many parts")


def are_alike(questions, i, j):
    """Tell whether each question has both or neither of two parts."""
    return all((asked >> i) & 1 == (asked >> j) & 1 for asked in questions)


def has_alike(many, questions):
    """Tell whether two of so many parts are parted by no question."""
    pairs = [(i, j) for j in range(many) for i in range(j)]
    return any(are_alike(questions, i, j) for i, j in pairs)


def parting(questions, bits):
    """Tell a list of the numbers of the questions that part a set, rising."""
    return [q for q, asked in enumerate(questions) if (bits & asked) not in (0, bits)]


def side_of(asked, bits, side):
    """Tell those of a set that are among the bits of a question (1) or that aren't (0)."""
    among = bits & asked
    return among if side == 1 else bits - among


def least_asked(many, questions):
    """Tell the least number of questions in the worst case, a tree by so many, and what shows that fewer can't do."""
    need_questions(many, questions)
    if has_alike(many, questions):
        raise NoPlan("two parts are parted by no question")
    if many > MOST_PARTS_ASKED or len(questions) > MOST_QUESTIONS_ASKED:
        raise TooMany("there are too many parts or questions to go through")
    counts = least_counts(many, questions)
    every = all_bits(many)
    count = counts[every]
    shown = None if count == 0 else shown_of(questions, counts, every, count - 1)
    return (count, tree_for(questions, counts, every), shown)


def least_counts(many, questions):
    """Tell of each set of parts, from the empty one on, by how many questions the failed one is found within it."""
    counts = [0]
    for bits in range(1, 1 << many):
        # Both sides of a question that parts a set are lesser numbers than the set, so they stand there already.
        later = [worse_side(questions, counts, bits, q) for q in parting(questions, bits)]
        counts.append(1 + min(later) if later else 0)
    return counts


def worse_side(questions, counts, bits, q):
    """Tell how many questions are asked behind question q of a set in the worst case."""
    asked = questions[q]
    return max(counts[side_of(asked, bits, 1)], counts[side_of(asked, bits, 0)])


def tree_for(questions, counts, bits):
    """Tell a tree that finds the failed one of a set by as few questions as can be."""
    if counts[bits] == 0:
        return ("is", parts_in(bits)[0])
    q = min(parting(questions, bits), key=lambda number: worse_side(questions, counts, bits, number))
    yes = tree_for(questions, counts, side_of(questions[q], bits, 1))
    no = tree_for(questions, counts, side_of(questions[q], bits, 0))
    return ("ask", q, yes, no)


def is_too_many(bits, count):
    """Tell whether a set has more parts than so many answers can tell apart."""
    # So many questions tell any set's parts apart; a greater count would make a number without bounds.
    return many_in(bits) > 1 << min(count, MOST_PARTS)


def shown_of(questions, counts, bits, count):
    """Tell what shows that the parts of a set can't be found by so many questions, where that is so."""
    if is_too_many(bits, count):
        return ("many",)
    branches = []
    for q in parting(questions, bits):
        side = 1 if counts[side_of(questions[q], bits, 1)] >= count else 0
        shown = shown_of(questions, counts, side_of(questions[q], bits, side), count - 1)
        branches.append((q, side, shown))
    return ("cases", tuple(branches))


def shows_asked(many, questions, count, shown):
    """Tell whether a thing shows that the parts can't be found by so many questions."""
    need_questions(many, questions)
    if not is_whole(count) or count < 0:
        raise BadSets("this is no number of questions")
    return shows_of(questions, all_bits(many), count, shown)


def shows_of(questions, bits, count, thing):
    """Tell whether a thing shows that the parts of a set can't be found by so many questions."""
    if not isinstance(thing, tuple) or len(thing) not in (1, 2, 3):
        return False
    if len(thing) == 1:
        return is_word(thing[0], "many") and is_too_many(bits, count)
    if len(thing) == 2:
        return is_word(thing[0], "cases") and count > 0 and shows_cases(questions, bits, count, thing[1])
    return is_word(thing[0], "alike") and shows_alike(questions, bits, thing[1], thing[2])


def shows_alike(questions, bits, i, j):
    """Tell whether two things are parts of a set, the lesser one first, that no question parts."""
    parts = parts_in(bits)
    if not is_whole(i) or not is_whole(j) or i not in parts or j not in parts:
        return False
    return i < j and are_alike(questions, i, j)


def shows_cases(questions, bits, count, branches):
    """Tell whether branches show it of each question that parts a set, of one of its sides."""
    parted_by = parting(questions, bits)
    if not isinstance(branches, tuple) or not branches or len(branches) != len(parted_by):
        return False
    for q, branch in zip(parted_by, branches):
        if not shows_branch(questions, bits, count, q, branch):
            return False
    return True


def shows_branch(questions, bits, count, q, branch):
    """Tell whether a branch shows it of one side of question q, and of one question less."""
    if not isinstance(branch, tuple) or len(branch) != 3:
        return False
    number, side, shown = branch
    if not is_whole(number) or number != q or not is_whole(side) or side not in (0, 1):
        return False
    return shows_of(questions, side_of(questions[q], bits, side), count - 1, shown)


def asked_by(many, questions, tree, i):
    """Tell which part a tree tells where part i has failed, and by how many questions."""
    need_questions(many, questions)
    if not is_tree_of_questions(many, questions, tree):
        raise BadSets("this is no tree of these questions and parts")
    if not is_whole(i) or not 0 <= i < many:
        raise BadSets("this is no part")
    count = 0
    within = tree
    while within[0] == "ask":
        within = within[2] if (questions[within[1]] >> i) & 1 else within[3]
        count += 1
    return (within[1], count)


def is_tree_of_questions(many, questions, thing):
    """Tell whether a thing is a tree of these questions and so many parts, neither too deep nor too great."""
    seen = 0
    # The trees that are still to be looked at, each with how deep it stands.
    waiting = [(thing, 1)]
    while waiting:
        tree, deep = waiting.pop()
        seen += 1
        if seen > MOST_TREES or deep > MOST_DEEP:
            return False
        if is_question(questions, tree):
            waiting.append((tree[2], deep + 1))
            waiting.append((tree[3], deep + 1))
        elif not is_end(many, tree):
            return False
    return True


def is_end(many, thing):
    """Tell whether a thing is an end of a tree of questions, which tells one of so many parts."""
    if not isinstance(thing, tuple) or len(thing) != 2 or not is_word(thing[0], "is"):
        return False
    return is_whole(thing[1]) and 0 <= thing[1] < many


def is_question(questions, thing):
    """Tell whether a thing asks one of the questions, whatever stands behind it."""
    if not isinstance(thing, tuple) or len(thing) != 4 or not is_word(thing[0], "ask"):
        return False
    return is_whole(thing[1]) and 0 <= thing[1] < len(questions)
