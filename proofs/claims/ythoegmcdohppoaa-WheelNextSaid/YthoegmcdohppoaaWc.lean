/- The contracts of the program's wheel, gathered. No conditions but those stated. -/
import Derived.Test.YthoegmcdohppoaaWmH
