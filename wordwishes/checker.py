"""The checker: takes a claim with its paper where both are as told, and trusts nobody."""

from wordwishes.errors import NoStep
from wordwishes.marks import is_order
from wordwishes.rowclaims import is_paper_against_row, is_row_taken
from wordwishes.signs import right_wish
from wordwishes.things import is_tuple_of
from wordwishes.walks import gone
from wordwishes.wordclaims import are_words_taken, is_drawing_of_words, is_paper_against_words
from wordwishes.worldclaims import is_meaning, is_world_of


def takes_sentence(parts, paper):
    """Whether the parts are a lexicon and words, the paper a drawing of them."""
    if not is_tuple_of(parts, 2):
        return False
    lexicon, words = parts
    return are_words_taken(lexicon, words) and is_drawing_of_words(lexicon, words, paper)


def takes_no_sentence(parts, paper):
    """Whether the parts are a lexicon and words, and the paper shows that they are no sentence."""
    if not is_tuple_of(parts, 2):
        return False
    lexicon, words = parts
    return are_words_taken(lexicon, words) and is_paper_against_words(lexicon, words, paper)


def takes_twofold(parts, paper):
    """Whether the parts are a lexicon and words, the paper two unlike drawings of them."""
    if not is_tuple_of(paper, 2):
        return False
    return takes_sentence(parts, paper[0]) and takes_sentence(parts, paper[1]) and paper[0] != paper[1]


def are_rows_taken(order, one, other):
    """Whether the things are an order and two rows that the checker takes."""
    return is_order(order) and is_row_taken(one) and is_row_taken(other)


def leads_there(order, one, other, walk):
    """Whether the thing is a walk that leads from the one row to the other."""
    if not isinstance(walk, tuple):
        return False
    try:
        return gone(order, one, walk) == other
    except NoStep:
        return False


def takes_comes(parts, paper):
    """Whether the parts are an order and two rows, the paper a walk from the one to the other."""
    if not is_tuple_of(parts, 3):
        return False
    order, one, other = parts
    return are_rows_taken(order, one, other) and leads_there(order, one, other, paper)


def takes_comes_not(parts, paper):
    """Whether the parts are an order and two rows, and the paper shows that the one doesn't come to the other."""
    if not is_tuple_of(parts, 3):
        return False
    order, one, other = parts
    return are_rows_taken(order, one, other) and is_paper_against_row(order, one + right_wish(other), paper)


def takes_parted(parts, paper):
    """Whether the parts are two lexicons and words of both, the paper a drawing in the one and a paper in the other."""
    if not is_tuple_of(parts, 3) or not is_tuple_of(paper, 2):
        return False
    one, other, words = parts
    if takes_sentence((one, words), paper[0]):
        return takes_no_sentence((other, words), paper[1])
    return takes_no_sentence((one, words), paper[0]) and takes_sentence((other, words), paper[1])


def takes_means(parts, paper):
    """Whether the parts are a lexicon, a world, words, a drawing and what it means, the paper None."""
    if not is_tuple_of(parts, 5) or paper is not None:
        return False
    lexicon, world, words, drawing, things = parts
    return (
        are_words_taken(lexicon, words)
        and is_world_of(lexicon, world)
        and is_drawing_of_words(lexicon, words, drawing)
        and is_meaning(lexicon, world, words, drawing, things)
    )


CHECKS = {
    "sentence": takes_sentence,
    "no sentence": takes_no_sentence,
    "twofold": takes_twofold,
    "comes": takes_comes,
    "comes not": takes_comes_not,
    "parted": takes_parted,
    "means": takes_means,
}


def holds(claim, paper):
    """Whether the claim and its paper, things of any kind, are as told: True or False."""
    if not isinstance(claim, tuple) or len(claim) == 0:
        return False
    if not isinstance(claim[0], str) or claim[0] not in CHECKS:
        return False
    check = CHECKS[claim[0]]
    return check(claim[1:], paper)
