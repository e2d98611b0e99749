package weave

import (
	"math"

	"weave/api"
)

// isConfig looks at the block first: twice a block that is none may be no int.
func isConfig(c api.Config) bool {
	return isBlock(c.Block) &&
		c.Room >= 2*c.Block && c.Room <= api.MaxRoom &&
		c.Wait >= 1 && c.Wait <= api.MaxWait
}

func isBlock(n int) bool {
	return n >= api.MinBlock && n <= api.MaxBlock && isSize(n)
}

// areTaps looks at each tap ahead of its size: the least int has none, and sums of sizes that
// were not looked at may come round.
func areTaps(l []int) bool {
	if len(l) == 0 || len(l) > api.MaxTaps {
		return false
	}
	norm := 0
	for _, tap := range l {
		if tap < -api.MaxNorm || tap > api.MaxNorm {
			return false
		}
		norm += max(tap, -tap)
	}
	return norm <= api.MaxNorm
}

func areSamples(l []int) bool {
	for _, n := range l {
		if n < math.MinInt32 || n > math.MaxInt32 {
			return false
		}
	}
	return true
}
