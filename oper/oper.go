// Package oper is layer 1: see shared/doc/01-oper.md.
package oper

// The tags.
const (
	Add  = 1
	Sub  = 2
	Or   = 3
	And  = 4
	Max  = 5
	Min  = 6
	Swap = 7
	Put  = 8
	Take = 9
)

// Op is what is done to a cell.
type Op struct{ Tag, V int }

// Known tells whether there is an op of that tag.
func Known(tag int) bool { return tag >= Add && tag <= Take }

// May tells whether the op may be done to a cell that is, or isn't, bounded.
func May(o Op, bounded bool) bool {
	switch o.Tag {
	case Take:
		// A Put below 0 takes away; a Take below 0 would get around the ceiling.
		if o.V < 0 {
			return false
		}
		fallthrough
	case Put:
		return bounded
	}
	return !bounded && Known(o.Tag)
}

// Apply answers what is in the cell behind the op, if x is ahead of it, and
// whether the op does anything; if it is refused, that is x and false.
func Apply(o Op, x, lo, hi int) (int, bool) {
	switch o.Tag {
	case Sub:
		// The opposite of the least int is itself, and x less it is x and it:
		// both go round alike.
		o.V = -o.V
		fallthrough
	case Add:
		return x + o.V, true
	case Or:
		return x | o.V, true
	case And:
		return x & o.V, true
	case Max:
		return max(x, o.V), true
	case Min:
		return min(x, o.V), true
	case Swap:
		return o.V, true
	case Put:
		return put(x, o.V, lo, hi)
	case Take:
		return take(x, o.V, lo)
	}
	return x, false
}

func put(x, v, lo, hi int) (int, bool) {
	sum := x + v
	// A sum that went round lies on the wrong side of x.
	wentRound := (sum < x) != (v < 0)
	if wentRound || sum < lo || sum > hi {
		return x, false
	}
	return sum, true
}

func take(x, v, lo int) (int, bool) {
	if v < 0 || x < lo {
		return x, false
	}
	// Of two ints the greater less the lesser always fits without a sign.
	if there := uint64(x) - uint64(lo); uint64(v) >= there {
		return lo, true
	}
	return x - v, true
}
