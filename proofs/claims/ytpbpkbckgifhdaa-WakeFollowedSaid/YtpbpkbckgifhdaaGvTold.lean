/- What is told at this program. -/
import Derived.Test.YtpbpkbckgifhdaaX7
import Derived.Test.YtpbpkbckgifhdaaX20
