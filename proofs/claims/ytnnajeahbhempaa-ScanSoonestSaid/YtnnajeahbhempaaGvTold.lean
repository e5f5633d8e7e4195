/- What is told at this program. -/
import Derived.Test.YtnnajeahbhempaaX6
import Derived.Test.YtnnajeahbhempaaX8
import Derived.Test.YtnnajeahbhempaaX9
