/- What is told of the program's functions. -/
import Derived.Test.YtkbahledgljaoaaCT3
import Derived.Test.YtkbahledgljaoaaCT18
