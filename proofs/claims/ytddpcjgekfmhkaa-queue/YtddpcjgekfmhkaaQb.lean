/- Rings of texts and of numbers, and append. -/
import Derived.Test.YtddpcjgekfmhkaaRingDS
import Derived.Test.YtddpcjgekfmhkaaRingDI
import Derived.Test.YtddpcjgekfmhkaaAp
