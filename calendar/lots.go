package calendar

import (
	"turnround/api"
	"turnround/check"
	"turnround/lists"
)

const (
	multiplier = 48271
	modulus    = 2147483647
)

// Draw returns a pseudorandom permutation of n elements.
func Draw(key, n int) ([]int, api.Errno) {
	if e := check.First(check.Range(key, 1, modulus-1), check.Range(n, 0, api.MaxList)); e != api.OK {
		return nil, e
	}
	return shuffled(lists.Ascending(n), key), api.OK
}

// shuffled returns a copy of a list in the order that is drawn by a key.
func shuffled(list []int, key int) []int {
	drawn := make([]int, len(list))
	copy(drawn, list)
	// 64 bits, since the product does not fit into 32.
	x := int64(key)
	for i := len(drawn) - 1; i >= 1; i-- {
		x = multiplier * x % modulus
		other := int(x % int64(i+1))
		drawn[i], drawn[other] = drawn[other], drawn[i]
	}
	return drawn
}
