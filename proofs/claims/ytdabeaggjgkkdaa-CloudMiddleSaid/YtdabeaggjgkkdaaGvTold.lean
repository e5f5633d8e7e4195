/- What is told of the program's functions. -/
import Derived.Test.YtdabeaggjgkkdaaCT3
import Derived.Test.YtdabeaggjgkkdaaCT17
