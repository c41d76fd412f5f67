"""The refusals of the program, one class each, all straight under FormError."""


class FormError(ValueError):
    pass


# Every class with fields hands words of its own to its base: Python would else keep what it was
# made of, and a list kept there could be changed from outside.


class NoRow(FormError):
    def __init__(self, at):
        FormError.__init__(self, f"row {at} of the writing is none")
        self.at = at


class Twice(FormError):
    def __init__(self, sign):
        FormError.__init__(self, f"the sign {sign} is told of twice")
        self.sign = sign


class NoPair(FormError):
    def __init__(self, sign):
        FormError.__init__(self, f"the shut sign {sign} has no row of two signs")
        self.sign = sign


class Same(FormError):
    def __init__(self, one, other):
        FormError.__init__(self, f"the signs {one} and {other} have the same row, and neither is shut")
        self.one = one
        self.other = other


class Ring(FormError):
    def __init__(self, signs):
        told = ", ".join([str(sign) for sign in signs])
        FormError.__init__(self, f"these rows lead round in a ring: {told}")
        self.signs = list(signs)


class TooLong(FormError):
    def __init__(self, sign):
        FormError.__init__(self, f"the full row of the sign {sign} is too long")
        self.sign = sign


class NoStep(FormError):
    pass


class Unlike(FormError):
    def __init__(self, at):
        FormError.__init__(self, f"the apart forms differ at place {at}")
        self.at = at


class TooMany(FormError):
    pass


class NotFormed(FormError):
    def __init__(self, which):
        FormError.__init__(self, f"text {which} is not its own form")
        self.which = which


class Double(FormError):
    def __init__(self, at):
        FormError.__init__(self, f"row {at} tells again of a word or a sign")
        self.at = at


class NoKind(FormError):
    def __init__(self, at):
        FormError.__init__(self, f"row {at} has a word that is no kind")
        self.at = at


class Nothing(FormError):
    pass


class NoPlace(FormError):
    pass


class NoUndo(FormError):
    pass
