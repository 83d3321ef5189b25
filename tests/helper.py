"""What several of the tests need."""

from cisternyard.errors import BadDays, BadLine, BadText, BadYard, YardError

KINDS = (BadYard, BadDays, BadLine, BadText)


def assert_refused(case, kind, call, *handed_in):
    """The call is refused with just this kind of refusal, and what was handed in stays."""
    before = repr(handed_in)
    with case.assertRaises(kind) as caught:
        call(*handed_in)
    error = caught.exception
    case.assertIsInstance(error, YardError)
    case.assertIsInstance(error, ValueError)
    for other in KINDS:
        if other is not kind:
            case.assertNotIsInstance(error, other)
    case.assertEqual(repr(handed_in), before)


def spoilt(numbers, wrong):
    """The list once for each of its places, with the wrong number there."""
    return [numbers[:k] + [wrong] + numbers[k + 1:] for k in range(len(numbers))]
