/- Rings of texts and of numbers, and append. -/
import Derived.Test.YtmfmpfdpjmakdaaRingDS
import Derived.Test.YtmfmpfdpjmakdaaRingDI
import Derived.Test.YtmfmpfdpjmakdaaAp
