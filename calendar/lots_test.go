package calendar_test

import (
	"fmt"
	"math"
	"math/big"
	"testing"

	"turnround/api"
	"turnround/calendar"
)

// drawByDefinition follows the definition of the permutation with numbers of any size.
func drawByDefinition(key, n int) []int {
	list := every(0, 1, n)
	x := big.NewInt(int64(key))
	for i := n - 1; i >= 1; i-- {
		x.Mul(x, big.NewInt(48271))
		x.Mod(x, big.NewInt(2147483647))
		j := int(new(big.Int).Mod(x, big.NewInt(int64(i+1))).Int64())
		list[i], list[j] = list[j], list[i]
	}
	return list
}

// P1.5
func TestExampleLot(t *testing.T) {
	l, e := calendar.Draw(1, 3)
	isList(t, "Draw", l, []int{2, 0, 1})
	is(t, "Draw", e, api.OK)
}

// P1.5
func TestLots(t *testing.T) {
	x := noise(6)
	keys := []int{1, 2, 3, 48271, 44488, 65536, 1073741824, 2147483645, 2147483646}
	for range 30 {
		keys = append(keys, 1+x.next(1<<24)*127)
	}
	for i, key := range keys {
		for _, n := range []int{0, 1, 2, 3, 4, 5, 7, 10, 64, 100 + i, 255, 256} {
			l, e := calendar.Draw(key, n)
			isList(t, fmt.Sprint("Draw of ", key, n), l, drawByDefinition(key, n))
			is(t, fmt.Sprint("Draw of ", key, n), e, api.OK)
		}
	}
	for n := range 257 {
		l, e := calendar.Draw(2026, n)
		isList(t, fmt.Sprint("Draw of 2026 and ", n), l, drawByDefinition(2026, n))
		is(t, fmt.Sprint("Draw of 2026 and ", n), e, api.OK)
	}
}

// P1.5
func TestLotErrors(t *testing.T) {
	for _, row := range [][2]int{
		{0, 3}, {-1, 3}, {2147483647, 3}, {2147483648, 3}, {math.MinInt, 3}, {math.MaxInt, 3},
		{1, -1}, {1, 257}, {1, math.MinInt}, {1, math.MaxInt}, {0, -1}, {2147483647, 257}, {0, 0},
	} {
		l, e := calendar.Draw(row[0], row[1])
		isList(t, fmt.Sprint("Draw of ", row), l, nil)
		is(t, fmt.Sprint("Draw of ", row), e, api.ErrRange)
	}
}
