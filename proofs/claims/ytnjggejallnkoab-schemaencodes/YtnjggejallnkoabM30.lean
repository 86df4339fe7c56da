/- LebC, ValueC: put together. -/
import Derived.Test.YtnjggejallnkoabM07
import Derived.Test.YtnjggejallnkoabM09
import Derived.Test.YtnjggejallnkoabM05

/- In this stage nothing is asked of package leb by the laws themselves: the plain facts on its numbers come from here. -/

/- In this stage nothing is asked of package value by the laws themselves. -/
