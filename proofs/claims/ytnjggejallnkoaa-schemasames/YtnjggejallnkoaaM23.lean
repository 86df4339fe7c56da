/- LebC, ValueC: put together. -/
import Derived.Test.YtnjggejallnkoaaM06
import Derived.Test.YtnjggejallnkoaaM08
import Derived.Test.YtnjggejallnkoaaM05

/- In this stage nothing is asked of package leb by the laws themselves: the plain facts on its numbers come from here. -/

/- In this stage nothing is asked of package value by the laws themselves. -/
