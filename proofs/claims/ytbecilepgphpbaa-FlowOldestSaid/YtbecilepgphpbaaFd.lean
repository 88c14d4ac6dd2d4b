/- The contracts of package flow that need no sorting: together. -/
import Derived.Test.YtbecilepgphpbaaFmQ
import Derived.Test.YtbecilepgphpbaaFmT
import Derived.Test.YtbecilepgphpbaaFmD
