/- What is told at this program. -/
import Derived.Test.YtfhgjanheaocaaaX7
import Derived.Test.YtfhgjanheaocaaaX17
