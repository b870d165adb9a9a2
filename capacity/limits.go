package capacity

import (
	"slices"

	"turnround/api"
	"turnround/calendar"
	"turnround/check"
)

// kind is a kind of limits; includes reports whether movements of a kind count for them.
type kind struct {
	name     string
	includes func(movements string) bool
}

// CheckLimits returns the first error of limits, or OK.
func CheckLimits(l []Limit) api.Errno {
	return check.Named(l, api.MaxLimits, func(l Limit) string { return l.Name }, checkLimit)
}

// Put returns limits with a changed, or a further, limit.
func Put(limits []Limit, l Limit) ([]Limit, api.Errno) {
	if e := check.First(CheckLimits(limits), checkLimit(l)); e != api.OK {
		return nil, e
	}
	changed := slices.Clone(limits)
	at := slices.IndexFunc(changed, func(other Limit) bool { return other.Name == l.Name })
	switch {
	case at >= 0:
		changed[at] = l
	case len(changed) == api.MaxLimits:
		return nil, api.ErrMany
	default:
		changed = append(changed, l)
	}
	return changed, api.OK
}

// Without returns limits without one of them.
func Without(limits []Limit, name string) ([]Limit, api.Errno) {
	if e := check.First(CheckLimits(limits), check.Name(name)); e != api.OK {
		return nil, e
	}
	kept := slices.Collect(filter(limits, func(l Limit) bool { return l.Name != name }))
	if len(kept) == len(limits) {
		return nil, api.ErrUnknown
	}
	return kept, api.OK
}

func checkLimit(l Limit) api.Errno {
	_, isKind := kindOf(l.Kind)
	return check.First(
		check.Name(l.Name),
		check.Unless(isKind, api.ErrKind),
		check.OptionalName(l.Terminal),
		check.Range(l.Length, 1, MaxLength),
		check.Range(l.Step, 1, minutesOfDay),
		check.Minute(l.From),
		check.Minute(l.To),
		check.Unless(l.From <= l.To, api.ErrOrder),
		calendar.CheckPeriod(l.Period),
		check.Range(l.Most, 0, api.MaxNumber),
	)
}

// kinds returns the kinds of limits.
func kinds() [3]kind {
	one := func(name string) kind {
		return kind{name: name, includes: func(movements string) bool { return movements == name }}
	}
	return [3]kind{
		one(api.Arrival),
		one(api.Departure),
		{name: check.BothKinds, includes: func(string) bool { return true }},
	}
}

// kindOf returns the kind with a name, and whether there is one.
func kindOf(name string) (kind, bool) {
	for _, k := range kinds() {
		if k.name == name {
			return k, true
		}
	}
	return kind{}, false
}

// countsFor returns what reports whether a movement counts for a limit.
func countsFor(l Limit) func(api.Movement) bool {
	k, _ := kindOf(l.Kind)
	return func(m api.Movement) bool {
		return k.includes(m.Kind) && (l.Terminal == "" || l.Terminal == m.Terminal)
	}
}
