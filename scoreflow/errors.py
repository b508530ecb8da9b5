"""The refusals of the program, one class for each."""


# Whoever wants to take every refusal alike takes this one.
class ScoreError(ValueError):
    pass


class NoShare(ScoreError):
    pass


class NoEnd(ScoreError):
    pass


class NoGrammar(ScoreError):
    pass


class NoTree(ScoreError):
    pass


class NoText(ScoreError):
    pass
