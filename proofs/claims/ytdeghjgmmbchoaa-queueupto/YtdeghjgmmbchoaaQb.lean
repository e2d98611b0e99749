/- Rings of texts and of numbers, and append. -/
import Derived.Test.YtdeghjgmmbchoaaRingDS
import Derived.Test.YtdeghjgmmbchoaaRingDI
import Derived.Test.YtdeghjgmmbchoaaAp
