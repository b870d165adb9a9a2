package ground

import (
	"slices"

	"turnround/api"
	"turnround/check"
)

// sizes has, at the index s - 1, the number of things of at least the size s.
type sizes [api.MaxSize]int

// add counts a thing of a size.
func (n *sizes) add(size int) {
	for i := range size {
		n[i]++
	}
}

// Clash returns a moment and a size for which there are too many turnarounds.
func Clash(stands []Stand, turns []Turn, buffer int) (Lack, api.Errno) {
	if e := checkGround(stands, turns, buffer); e != api.OK {
		return Lack{}, e
	}
	none := Lack{}
	first := none
	has := sizesOf(stands)
search:
	for _, moment := range starts(turns) {
		needed := sizesAt(turns, buffer, moment)
		for i := range api.MaxSize {
			size := api.MaxSize - i
			if needed[size-1] > has[size-1] {
				first = Lack{Moment: moment, Size: size}
				break search
			}
		}
	}
	if first == none {
		return Lack{}, api.ErrNone
	}
	return first, api.OK
}

// CheckClash returns OK for a moment and a size for which there are too many turnarounds.
func CheckClash(stands []Stand, turns []Turn, buffer int, x Lack) api.Errno {
	e := check.First(checkGround(stands, turns, buffer), check.Moment(x.Moment), checkSize(x.Size))
	if e != api.OK {
		return e
	}
	has, needed := sizesOf(stands), sizesAt(turns, buffer, x.Moment)
	return check.Unless(needed[x.Size-1] > has[x.Size-1], api.ErrProof)
}

// Least returns how many stands of each size, or a greater one, are there at the same time at most.
func Least(turns []Turn, buffer int) ([api.MaxSize]int, api.Errno) {
	var least sizes
	if e := check.First(CheckTurns(turns), checkBuffer(buffer)); e != api.OK {
		return least, e
	}
	for _, moment := range starts(turns) {
		for i, n := range sizesAt(turns, buffer, moment) {
			least[i] = max(least[i], n)
		}
	}
	return least, api.OK
}

// starts returns the moments at which turnarounds start, in ascending order: numbers of turnarounds at stands rise only there.
func starts(turns []Turn) []int {
	var moments []int
	for _, t := range turns {
		moments = append(moments, t.Start)
	}
	slices.Sort(moments)
	return moments
}

func sizesOf(stands []Stand) sizes {
	var n sizes
	for _, s := range stands {
		n.add(s.Size)
	}
	return n
}

// sizesAt counts the turnarounds that occupy stands at a moment.
func sizesAt(turns []Turn, buffer, moment int) sizes {
	var n sizes
	for _, t := range turns {
		if occupies(t, buffer, moment) {
			n.add(t.Size)
		}
	}
	return n
}
