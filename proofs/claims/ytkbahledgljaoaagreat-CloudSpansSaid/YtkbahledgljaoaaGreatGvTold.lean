/- What is told of the program's functions. -/
import Derived.Test.YtkbahledgljaoaaGreatCT3
import Derived.Test.YtkbahledgljaoaaGreatCT18
