/- What is told at this program. -/
import Derived.Test.YtpbpkbckgifhdaaGreatX7
import Derived.Test.YtpbpkbckgifhdaaGreatX20
