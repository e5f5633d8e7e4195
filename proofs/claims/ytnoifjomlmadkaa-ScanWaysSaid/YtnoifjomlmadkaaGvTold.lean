/- What is told at this program. -/
import Derived.Test.YtnoifjomlmadkaaX6
import Derived.Test.YtnoifjomlmadkaaX9
