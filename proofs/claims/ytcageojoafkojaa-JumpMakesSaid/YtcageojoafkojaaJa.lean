/- What jumps lean on. -/
import Derived.Test.YtcageojoafkojaaGa
import Derived.Test.YtcageojoafkojaaGx
import Derived.Test.YtcageojoafkojaaGt
