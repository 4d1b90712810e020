"""What the program refuses, one error class for each refusal."""


class FindError(ValueError):
    pass


class NoFit(FindError):
    pass


class NoLaying(FindError):
    pass


class NoLetter(FindError):
    pass


class NoNumber(FindError):
    pass


class NoText(FindError):
    pass
