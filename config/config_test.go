package config

import (
	"math"
	"testing"

	"millstream/api"
)

const (
	least    = math.MinInt
	greatest = math.MaxInt
)

// field is a number of a config, with the document's bounds and error.
type field struct {
	name     string
	of       func(*Config) *int
	from, to int
	wrong    api.Errno
	told     int // the error's number
}

// fields answers the numbers that have bounds of their own, in the document's
// order.
func fields() []field {
	return []field{
		{"Threads", func(c *Config) *int { return &c.Threads }, 1, 16, api.ErrThreads, 50},
		{"Items", func(c *Config) *int { return &c.Items }, 1, 4, api.ErrItems, 51},
		{"Backend", func(c *Config) *int { return &c.Backend }, 1, 3, api.ErrBackend, 52},
		{"Depth", func(c *Config) *int { return &c.Depth }, 0, 4, api.ErrDepth, 53},
		{"Layers", func(c *Config) *int { return &c.Layers }, 0, 3, api.ErrLayers, 54},
		{"Width", func(c *Config) *int { return &c.Width }, 1, 8, api.ErrWidth, 55},
		{"Spin", func(c *Config) *int { return &c.Spin }, 0, 20, api.ErrSpin, 56},
		{"Wait", func(c *Config) *int { return &c.Wait }, 0, 1000, api.ErrWait, 57},
	}
}

// beyond answers numbers that the field may not be.
func (f field) beyond() []int {
	return []int{f.from - 1, f.to + 1, -f.to - 1, least, least + 1, greatest - 1, greatest}
}

// smallest and largest are the least config that Check takes, and the greatest.
func smallest() Config { return Config{Threads: 1, Items: 1, Backend: 1, Width: 1} }

func largest() Config {
	return Config{Threads: 16, Items: 4, Backend: 3, Depth: 4, Layers: 3, Width: 8, Spin: 20, Wait: 1000}
}

// ordinary is one with each number away from its bounds, where there is room.
func ordinary() Config {
	return Config{
		Threads: 6, Items: 2, Backend: 2, Depth: 3, Layers: 2, Width: 4, Spin: 5, Wait: 50,
		Bounded: true, Lo: -3, Hi: 12, Init: 7,
	}
}

func good() []Config { return []Config{smallest(), ordinary(), largest()} }

func checkIs(t *testing.T, c Config, want api.Errno) {
	t.Helper()
	if got := Check(c); got != want {
		t.Errorf("Check(%+v): %d, want %d", c, got, want)
	}
}

// P5.1: Check takes the least config, an ordinary one, and the greatest.
func TestCheckTakes(t *testing.T) {
	for _, c := range good() {
		checkIs(t, c, api.OK)
	}
	for _, backend := range []int{Cell, Tree, Funnel} {
		for _, c := range good() {
			c.Backend = backend
			checkIs(t, c, api.OK)
		}
	}
}

// The backends and the errors have the document's numbers.
func TestNumbersOfTheDocument(t *testing.T) {
	if Cell != 1 || Tree != 2 || Funnel != 3 {
		t.Errorf("the backends are %d, %d, %d", Cell, Tree, Funnel)
	}
	for _, f := range fields() {
		if int(f.wrong) != f.told {
			t.Errorf("the error of %s is %d, want %d", f.name, f.wrong, f.told)
		}
	}
	if api.ErrBounds != 58 {
		t.Errorf("the error of bounds is %d", api.ErrBounds)
	}
}

// P5.1: a config none of whose fields is set.
func TestCheckOfNothing(t *testing.T) { checkIs(t, Config{}, api.ErrThreads) }

// P5.1: each number may be all from its least to its greatest, whatever the
// other ones are.
func TestEachNumberWithin(t *testing.T) {
	for _, f := range fields() {
		for _, c := range good() {
			for v := f.from; v <= f.to; v++ {
				*f.of(&c) = v
				checkIs(t, c, api.OK)
			}
		}
	}
}

// P5.1: one below, one above, and at the ends of what an int holds each number
// has its own error.
func TestEachNumberBeyond(t *testing.T) {
	for _, f := range fields() {
		for _, c := range good() {
			for _, v := range f.beyond() {
				*f.of(&c) = v
				checkIs(t, c, f.wrong)
			}
		}
	}
}

// P5.1, R2: of two numbers that both may not be, the error of the one that is
// named first is told; bounds that may not be are told behind all of them.
func TestTwoNumbersBeyond(t *testing.T) {
	all := fields()
	for i, first := range all {
		for _, v := range first.beyond() {
			for _, second := range all[i+1:] {
				for _, w := range second.beyond() {
					c := ordinary()
					*first.of(&c), *second.of(&c) = v, w
					checkIs(t, c, first.wrong)
				}
			}
			c := ordinary()
			*first.of(&c), c.Init = v, c.Hi+1
			checkIs(t, c, first.wrong)
		}
	}
}

// P5.1, R2: of a config whose numbers all may not be, one after the other is
// told as the ones ahead of it are mended.
func TestAllNumbersBeyond(t *testing.T) {
	c := Config{Bounded: true, Lo: 1, Hi: -1}
	for _, f := range fields() {
		*f.of(&c) = f.to + 1
	}
	for _, f := range fields() {
		checkIs(t, c, f.wrong)
		*f.of(&c) = f.from
	}
	checkIs(t, c, api.ErrBounds)
	c.Bounded = false
	checkIs(t, c, api.OK)
}

// bounds are a floor, a ceiling and a beginning, and whether a bounded config
// may have them.
type bounds struct {
	lo, hi, start int
	may           bool
}

func someBounds() []bounds {
	return []bounds{
		{0, 0, 0, true}, {-3, 12, 7, true},
		{2, 9, 2, true}, {2, 9, 9, true}, {2, 9, 1, false}, {2, 9, 10, false},
		{-9, -2, -9, true}, {-9, -2, -2, true}, {-9, -2, -10, false}, {-9, -2, -1, false}, {-9, -2, 0, false},
		{5, 5, 5, true}, {5, 5, 4, false}, {5, 5, 6, false},
		{9, 1, 5, false}, {9, 1, 9, false}, {9, 1, 1, false}, {9, 1, 0, false}, {9, 1, 10, false},
		{1, 0, 0, false}, {1, 0, 1, false},
		{least, greatest, 0, true}, {least, greatest, least, true}, {least, greatest, greatest, true},
		{least, least, least, true}, {least, least, least + 1, false}, {least, least, greatest, false},
		{greatest, greatest, greatest, true}, {greatest, greatest, greatest - 1, false}, {greatest, greatest, least, false},
		{greatest, least, 0, false}, {greatest, least, least, false}, {greatest, least, greatest, false},
		{least + 1, greatest - 1, least, false}, {least + 1, greatest - 1, greatest, false},
	}
}

// P5.1: bounds of a bounded config: Init at either of them, one beyond, Lo above
// Hi, and the ends of what an int holds; of one that is not bounded they may be
// any.
func TestBounds(t *testing.T) {
	for _, c := range good() {
		for _, b := range someBounds() {
			c.Lo, c.Hi, c.Init = b.lo, b.hi, b.start
			c.Bounded = false
			checkIs(t, c, api.OK)
			want := api.OK
			if !b.may {
				want = api.ErrBounds
			}
			c.Bounded = true
			checkIs(t, c, want)
		}
	}
}

// P5.1: small bounds, each against each.
func TestSmallBounds(t *testing.T) {
	c := ordinary()
	for c.Lo = -2; c.Lo <= 2; c.Lo++ {
		for c.Hi = -2; c.Hi <= 2; c.Hi++ {
			within := map[int]bool{}
			for v := c.Lo; v <= c.Hi; v++ {
				within[v] = true
			}
			for c.Init = -3; c.Init <= 3; c.Init++ {
				want := api.ErrBounds
				if within[c.Init] {
					want = api.OK
				}
				checkIs(t, c, want)
			}
		}
	}
}

func stepsAre(t *testing.T, c Config, want int) {
	t.Helper()
	if got := Steps(c); got != want {
		t.Errorf("Steps(%+v): %d, want %d", c, got, want)
	}
}

// P5.2: Steps of the least config that Check takes, of the greatest one, and of
// ones between.
func TestSteps(t *testing.T) {
	stepsAre(t, smallest(), 20)
	stepsAre(t, ordinary(), 104)
	stepsAre(t, largest(), 232)
	for _, x := range []struct{ depth, layers, spin, want int }{
		{1, 0, 0, 28}, {4, 0, 0, 52},
		{0, 1, 0, 40}, {0, 3, 0, 80},
		{0, 0, 1, 20}, {4, 0, 20, 52},
		{0, 1, 1, 42}, {0, 1, 20, 80}, {0, 3, 20, 200},
		{1, 1, 1, 50}, {2, 3, 4, 120},
	} {
		c := smallest()
		c.Depth, c.Layers, c.Spin = x.depth, x.layers, x.spin
		stepsAre(t, c, x.want)
	}
}

// moreSteps holds the steps of one config against those of another one, if it is
// one that Check takes; of others nothing is said.
func moreSteps(t *testing.T, c, other Config, more int) {
	t.Helper()
	if Check(other) == api.OK {
		stepsAre(t, other, Steps(c)+more)
	}
}

// P5.2: of two configs that differ in Depth, Layers or Spin alone, by one, the
// steps differ by what the document says of that number.
func TestStepsOfOneMore(t *testing.T) {
	for _, c := range good() {
		for c.Depth = 0; c.Depth <= 4; c.Depth++ {
			for c.Layers = 0; c.Layers <= 3; c.Layers++ {
				for c.Spin = 0; c.Spin <= 20; c.Spin++ {
					deeper, longer, slower := c, c, c
					deeper.Depth++
					longer.Layers++
					slower.Spin++
					moreSteps(t, c, deeper, 8)
					moreSteps(t, c, longer, 20+c.Spin+c.Spin)
					moreSteps(t, c, slower, c.Layers+c.Layers)
				}
			}
		}
	}
}

// P5.2: of two configs that differ in any other field alone the steps are the
// same, also of another backend.
func TestStepsOfOtherFields(t *testing.T) {
	for _, c := range good() {
		for _, f := range fields() {
			if f.name == "Depth" || f.name == "Layers" || f.name == "Spin" {
				continue
			}
			other := c
			for v := f.from; v <= f.to; v++ {
				*f.of(&other) = v
				stepsAre(t, other, Steps(c))
			}
		}
		for _, b := range someBounds() {
			other := c
			// Bounded just where Check takes the bounds.
			other.Lo, other.Hi, other.Init, other.Bounded = b.lo, b.hi, b.start, b.may
			stepsAre(t, other, Steps(c))
		}
	}
}

// R4, R5: the config that is handed in stays as it is, and answers the same
// again; so it does when another one was asked of between. There are no lists in
// a config, so none can be shared.
func TestConfigsStay(t *testing.T) {
	bad := ordinary()
	bad.Width = 9
	for _, c := range append(good(), Config{}, bad) {
		before, wrong, steps := c, Check(c), Steps(c)
		for range 20 {
			Check(largest())
			Steps(largest())
			if Check(c) != wrong || Steps(c) != steps {
				t.Errorf("%+v answers %d and %d, was %d and %d", c, Check(c), Steps(c), wrong, steps)
			}
		}
		if c != before {
			t.Errorf("the config became %+v, was %+v", c, before)
		}
	}
}

// R1: no call panics, whatever the numbers are.
func TestAnyNumbers(t *testing.T) {
	ends := []int{least, -1, 0, 1, greatest}
	for _, a := range ends {
		for _, b := range ends {
			c := Config{
				Threads: a, Items: b, Backend: a, Depth: b, Layers: a, Width: b, Spin: b, Wait: a,
				Bounded: true, Lo: a, Hi: b, Init: a,
			}
			Steps(c)
			if a != 1 {
				checkIs(t, c, api.ErrThreads)
			}
		}
	}
}
