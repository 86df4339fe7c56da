/- In this stage nothing is asked of package leb by the laws themselves: the plain facts on its numbers come from here. -/
import Derived.Test.YtoojflhafmnggaaWRefG3
