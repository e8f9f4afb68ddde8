package arena

import (
	"math"
	"slices"
	"testing"

	"millstream/api"
	"millstream/batch"
	"millstream/config"
	"millstream/oper"
	"millstream/wmem"
)

const (
	least    = math.MinInt
	greatest = math.MaxInt
)

// smallest and largest are the least config that Check takes, and the greatest.
func smallest() config.Config {
	return config.Config{Threads: 1, Items: 1, Backend: config.Cell, Width: 1}
}

func largest() config.Config {
	return config.Config{
		Threads: 16, Items: 4, Backend: config.Funnel, Depth: 4, Layers: 3, Width: 8, Spin: 20, Wait: 1000,
		Bounded: true, Lo: least, Hi: greatest, Init: greatest,
	}
}

// ordinary is one with each number away from its bounds, where there is room.
func ordinary() config.Config {
	return config.Config{
		Threads: 3, Items: 2, Backend: config.Tree, Depth: 2, Layers: 2, Width: 3, Spin: 5, Wait: 50,
		Bounded: true, Lo: -3, Hi: 12, Init: 7,
	}
}

// flat has no tree, thin no funnel; both have more than one item.
func flat() config.Config {
	return config.Config{Threads: 2, Items: 3, Backend: config.Funnel, Layers: 2, Width: 4, Init: -9}
}

func thin() config.Config {
	return config.Config{Threads: 5, Items: 4, Backend: config.Tree, Depth: 3, Width: 6, Init: 1}
}

func good() []config.Config {
	return []config.Config{smallest(), flat(), thin(), ordinary(), largest()}
}

// sizes answers all configs that Check takes, but for what says nothing of words.
func sizes() []config.Config {
	var all []config.Config
	for threads := 1; threads <= 16; threads++ {
		for items := 1; items <= 4; items++ {
			for depth := 0; depth <= 4; depth++ {
				for layers := 0; layers <= 3; layers++ {
					for width := 1; width <= 8; width++ {
						all = append(all, config.Config{
							Threads: threads, Items: items, Backend: config.Tree,
							Depth: depth, Layers: layers, Width: width,
						})
					}
				}
			}
		}
	}
	return all
}

// nodesOf is how many nodes the document gives a tree of that depth.
func nodesOf(depth int) int { return []int{0, 1, 3, 7, 15}[depth] }

func is(t *testing.T, c config.Config, what string, got, want int) {
	t.Helper()
	if got != want {
		t.Errorf("%s is %d, want %d, of %+v", what, got, want, c)
	}
}

// The configs of these tests are ones that Check takes: of others nothing is
// promised.
func TestConfigsAreGood(t *testing.T) {
	for _, c := range append(good(), sizes()...) {
		if e := config.Check(c); e != api.OK {
			t.Errorf("Check(%+v): %d", c, e)
		}
	}
}

// P6.1: the document's example.
func TestExample(t *testing.T) {
	c := config.Config{Threads: 1, Items: 2, Backend: config.Funnel, Depth: 1, Layers: 1, Width: 2}
	is(t, c, "Cell of item 1", Cell(c, 1), 4)
}

// P6.1: how many nodes a tree of each depth has, and that nothing else counts.
func TestNodes(t *testing.T) {
	for _, c := range good() {
		for c.Depth = 0; c.Depth <= 4; c.Depth++ {
			is(t, c, "Nodes", Nodes(c), nodesOf(c.Depth))
		}
	}
}

// P6.1: how many words there are.
func TestSize(t *testing.T) {
	is(t, smallest(), "Size", Size(smallest()), 3)
	is(t, flat(), "Size", Size(flat()), 3*9+4)
	is(t, thin(), "Size", Size(thin()), 4*8+10)
	is(t, ordinary(), "Size", Size(ordinary()), 2*10+6)
	is(t, largest(), "Size", Size(largest()), 192)
	for _, c := range sizes() {
		want := 0
		for range c.Items {
			want += 1 + nodesOf(c.Depth)
			for range c.Layers {
				want += c.Width
			}
		}
		is(t, c, "Size", Size(c), want+c.Threads+c.Threads)
	}
}

// P6.1: the least config has a cell, a line and a result, and nothing else.
func TestSmallest(t *testing.T) {
	c := smallest()
	is(t, c, "Cell", Cell(c, 0), 0)
	is(t, c, "Line", Line(c, 0), 1)
	is(t, c, "Result", Result(c, 0), 2)
	for n := -1; n <= 2; n++ {
		is(t, c, "Node", Node(c, 0, n), -1)
		is(t, c, "Slot", Slot(c, 0, n, 0), -1)
	}
}

// P6.1: places of the greatest config, the first and the last of each kind.
func TestLargest(t *testing.T) {
	c := largest()
	is(t, c, "Cell 0", Cell(c, 0), 0)
	is(t, c, "Cell 3", Cell(c, 3), 120)
	is(t, c, "Node 0 1", Node(c, 0, 1), 1)
	is(t, c, "Node 0 15", Node(c, 0, 15), 15)
	is(t, c, "Node 3 1", Node(c, 3, 1), 121)
	is(t, c, "Node 3 15", Node(c, 3, 15), 135)
	is(t, c, "Slot 0 1 0", Slot(c, 0, 1, 0), 16)
	is(t, c, "Slot 0 1 7", Slot(c, 0, 1, 7), 23)
	is(t, c, "Slot 0 3 7", Slot(c, 0, 3, 7), 39)
	is(t, c, "Slot 3 1 0", Slot(c, 3, 1, 0), 136)
	is(t, c, "Slot 3 3 7", Slot(c, 3, 3, 7), 159)
	is(t, c, "Line 0", Line(c, 0), 160)
	is(t, c, "Result 0", Result(c, 0), 161)
	is(t, c, "Line 15", Line(c, 15), 190)
	is(t, c, "Result 15", Result(c, 15), 191)
}

// P6.1: places of an ordinary config, of one without a tree, and of one without
// a funnel.
func TestPlaces(t *testing.T) {
	c := ordinary()
	is(t, c, "Cell 1", Cell(c, 1), 10)
	is(t, c, "Node 1 2", Node(c, 1, 2), 12)
	is(t, c, "Slot 0 1 2", Slot(c, 0, 1, 2), 6)
	is(t, c, "Slot 0 2 0", Slot(c, 0, 2, 0), 7)
	is(t, c, "Slot 1 2 1", Slot(c, 1, 2, 1), 18)
	is(t, c, "Line 1", Line(c, 1), 22)
	is(t, c, "Result 1", Result(c, 1), 23)
	c = flat()
	is(t, c, "Cell 2", Cell(c, 2), 18)
	is(t, c, "Node 2 1", Node(c, 2, 1), -1)
	is(t, c, "Slot 2 1 0", Slot(c, 2, 1, 0), 19)
	is(t, c, "Slot 2 2 3", Slot(c, 2, 2, 3), 26)
	is(t, c, "Line 0", Line(c, 0), 27)
	c = thin()
	is(t, c, "Cell 3", Cell(c, 3), 24)
	is(t, c, "Node 3 7", Node(c, 3, 7), 31)
	is(t, c, "Slot 3 1 0", Slot(c, 3, 1, 0), -1)
	is(t, c, "Result 4", Result(c, 4), 41)
}

// P6.1, P6.3: of each config the words stand one behind the other in the
// document's order, and the last one's place is the last there is.
func TestOrder(t *testing.T) {
	for _, c := range sizes() {
		next := 0
		stands := func(what string, at int) {
			t.Helper()
			is(t, c, what, at, next)
			next++
		}
		for item := range c.Items {
			stands("Cell", Cell(c, item))
			for n := 1; n <= nodesOf(c.Depth); n++ {
				stands("Node", Node(c, item, n))
			}
			for layer := 1; layer <= c.Layers; layer++ {
				for i := range c.Width {
					stands("Slot", Slot(c, item, layer, i))
				}
			}
		}
		for th := range c.Threads {
			stands("Line", Line(c, th))
			stands("Result", Result(c, th))
		}
		is(t, c, "Size", Size(c), next)
	}
}

// taken answers how many words stand at each place, of all words that there may
// be, with some numbers below and above those.
func taken(c config.Config) map[int]int {
	at := map[int]int{}
	for item := -2; item <= 6; item++ {
		at[Cell(c, item)]++
		for n := -2; n <= 40; n++ {
			at[Node(c, item, n)]++
		}
		for layer := -2; layer <= 6; layer++ {
			for i := -2; i <= 10; i++ {
				at[Slot(c, item, layer, i)]++
			}
		}
	}
	for th := -2; th <= 20; th++ {
		at[Line(c, th)]++
		at[Result(c, th)]++
	}
	delete(at, -1)
	return at
}

// P6.3: no two words stand at one place, each place is some word's, and there
// are no places but 0 to Size less one; also of numbers that no word has.
func TestEachPlaceOnce(t *testing.T) {
	all := good()
	for i, c := range sizes() {
		if i%17 == 0 {
			all = append(all, c)
		}
	}
	for _, c := range all {
		at := taken(c)
		is(t, c, "the number of places", len(at), Size(c))
		for place := range Size(c) {
			is(t, c, "the number of words at a place", at[place], 1)
		}
	}
}

// beyond answers numbers below first, and above last: one beyond, more, such
// that a product with what is between two places goes round, and the ends.
func beyond(first, last int) []int {
	l := []int{first - 1, first - 2, first - 100, last + 1, last + 2, last + 100, least, least + 1, greatest - 1, greatest}
	for shift := 8; shift < 63; shift++ {
		l = append(l, 1<<shift, -1<<shift, 1<<shift+1, -1<<shift+1)
	}
	return l
}

// P6.1: there is no item, node, layer, slot or thread below the first one, or
// above the last one, whatever the other numbers are.
func TestNoSuchWord(t *testing.T) {
	for _, c := range good() {
		for _, item := range beyond(0, c.Items-1) {
			is(t, c, "Cell of no item", Cell(c, item), -1)
			for n := -1; n <= nodesOf(c.Depth)+1; n++ {
				is(t, c, "Node of no item", Node(c, item, n), -1)
			}
			for layer := -1; layer <= c.Layers+1; layer++ {
				for i := -1; i <= c.Width; i++ {
					is(t, c, "Slot of no item", Slot(c, item, layer, i), -1)
				}
			}
		}
		for item := range c.Items {
			noSuchInItem(t, c, item)
		}
		for _, th := range beyond(0, c.Threads-1) {
			is(t, c, "Line of no thread", Line(c, th), -1)
			is(t, c, "Result of no thread", Result(c, th), -1)
		}
	}
}

func noSuchInItem(t *testing.T, c config.Config, item int) {
	t.Helper()
	for _, n := range beyond(1, nodesOf(c.Depth)) {
		is(t, c, "Node of no number", Node(c, item, n), -1)
	}
	for _, layer := range beyond(1, c.Layers) {
		for i := -1; i <= c.Width; i++ {
			is(t, c, "Slot of no layer", Slot(c, item, layer, i), -1)
		}
	}
	for layer := -1; layer <= c.Layers+1; layer++ {
		for _, i := range beyond(0, c.Width-1) {
			is(t, c, "Slot of no number", Slot(c, item, layer, i), -1)
		}
	}
}

// P6.1: of numbers none of which may be there is no word either.
func TestNoNumberMayBe(t *testing.T) {
	ends := []int{least, -1, 100, greatest}
	for _, c := range good() {
		for _, a := range ends {
			for _, b := range ends {
				is(t, c, "Node", Node(c, a, b), -1)
				for _, d := range ends {
					is(t, c, "Slot", Slot(c, a, b, d), -1)
				}
			}
		}
	}
}

// P6.1: places hang on how many there are of what, and on nothing else of a
// config, also not on its backend.
func TestOtherFields(t *testing.T) {
	for _, c := range good() {
		for backend := config.Cell; backend <= config.Funnel; backend++ {
			for _, bounded := range []bool{false, true} {
				other := c
				other.Backend, other.Spin, other.Wait = backend, 20-c.Spin, 1000-c.Wait
				other.Bounded, other.Lo, other.Hi, other.Init = bounded, -50, 50, 4
				is(t, other, "Nodes", Nodes(other), Nodes(c))
				is(t, other, "Size", Size(other), Size(c))
				last := nodesOf(c.Depth)
				for item := range c.Items {
					is(t, other, "Cell", Cell(other, item), Cell(c, item))
					is(t, other, "Node", Node(other, item, last), Node(c, item, last))
					is(t, other, "Slot", Slot(other, item, c.Layers, 0), Slot(c, item, c.Layers, 0))
				}
				is(t, other, "Line", Line(other, 0), Line(c, 0))
				is(t, other, "Result", Result(other, 0), Result(c, 0))
			}
		}
	}
}

// fresh answers the memory that the document asks for, word by word.
func fresh(c config.Config) wmem.Mem {
	var m wmem.Mem
	for range c.Items {
		m.Words = append(m.Words, c.Init)
		m.Words = append(m.Words, make([]int, nodesOf(c.Depth)+c.Layers*c.Width)...)
	}
	for range c.Threads {
		m.Words = append(m.Words, 0, 0)
		m.Boxes = append(m.Boxes, nil)
	}
	return m
}

func builtIs(t *testing.T, c config.Config, got, want wmem.Mem) {
	t.Helper()
	if !slices.Equal(got.Words, want.Words) || !slices.EqualFunc(got.Boxes, want.Boxes, slices.Equal) {
		t.Errorf("the memory is %v, want %v, of %+v", got, want, c)
	}
}

// P6.2: the memory of the least config, and of an ordinary one, written out.
func TestBuildWrittenOut(t *testing.T) {
	c := smallest()
	c.Init = 4
	builtIs(t, c, Build(c), wmem.Mem{Words: []int{4, 0, 0}, Boxes: [][]batch.Entry{nil}})
	c = config.Config{Threads: 2, Items: 2, Backend: config.Funnel, Depth: 1, Layers: 1, Width: 2, Init: -6}
	builtIs(t, c, Build(c), wmem.Mem{
		Words: []int{-6, 0, 0, 0, -6, 0, 0, 0, 0, 0, 0, 0},
		Boxes: [][]batch.Entry{nil, nil},
	})
}

// P6.2: Init in each cell and 0 elsewhere, a box for each thread, without an
// entry; of all sizes.
func TestBuildOfAllSizes(t *testing.T) {
	for i, c := range sizes() {
		c.Init = i - 5000
		m := Build(c)
		builtIs(t, c, m, fresh(c))
		is(t, c, "the number of words", len(m.Words), Size(c))
		is(t, c, "the number of boxes", len(m.Boxes), c.Threads)
	}
}

// P6.2: whatever Init is, the ends of what an int holds among them, bounded or
// not.
func TestBuildOfAnyInit(t *testing.T) {
	for _, c := range good() {
		for _, c.Init = range []int{least, least + 1, -1, 0, 1, 1 << 40, greatest - 1, greatest} {
			c.Bounded = false
			builtIs(t, c, Build(c), fresh(c))
			c.Bounded, c.Lo, c.Hi = true, c.Init, c.Init
			builtIs(t, c, Build(c), fresh(c))
			c.Lo, c.Hi = least, greatest
			builtIs(t, c, Build(c), fresh(c))
		}
	}
}

// P6.2: steps of machines find each word and each box, and none behind the last.
func TestStepsFindWords(t *testing.T) {
	for _, c := range good() {
		m := Build(c)
		for item := range c.Items {
			x, e := wmem.Load(m, Cell(c, item))
			if x != c.Init || e != api.OK {
				t.Errorf("the cell is %d (error %d), want %d", x, e, c.Init)
			}
		}
		last := c.Threads - 1
		if _, e := wmem.Store(m, Result(c, last), 5); e != api.OK {
			t.Errorf("the last result: error %d", e)
		}
		if _, e := wmem.Load(m, Result(c, last)+1); e != api.ErrPlace {
			t.Errorf("behind the last result: error %d", e)
		}
		if b, e := wmem.Box(m, last); len(b) != 0 || e != api.OK {
			t.Errorf("the last box: %v (error %d)", b, e)
		}
		if _, e := wmem.Box(m, last+1); e != api.ErrPlace {
			t.Errorf("behind the last box: error %d", e)
		}
	}
}

// overwrite writes all over a memory, and over the room behind its lists' ends.
func overwrite(m wmem.Mem) {
	words := m.Words[:cap(m.Words)]
	for i := range words {
		words[i] = -77
	}
	boxes := m.Boxes[:cap(m.Boxes)]
	for i := range boxes {
		box := boxes[i][:cap(boxes[i])]
		for k := range box {
			box[k] = batch.Entry{Thread: -7}
		}
		boxes[i] = append(boxes[i], batch.Entry{Thread: i, Op: oper.Op{Tag: oper.Add, V: 1}})
	}
}

// LANGUAGE.md's rule 7: two memories that were built share nothing, neither with
// each other nor with one that is built later.
func TestBuiltAreNewMemory(t *testing.T) {
	for _, c := range good() {
		a, b := Build(c), Build(c)
		overwrite(a)
		builtIs(t, c, b, fresh(c))
		builtIs(t, c, Build(c), fresh(c))
		overwrite(b)
		builtIs(t, c, Build(c), fresh(c))
	}
}

// LANGUAGE.md's rule 7: no two boxes of one memory share anything.
func TestBoxesShareNothing(t *testing.T) {
	c := largest()
	m := Build(c)
	for i := range m.Boxes {
		m.Boxes[i] = append(m.Boxes[i], batch.Entry{Thread: i})
	}
	for i, b := range m.Boxes {
		if !slices.Equal(b, []batch.Entry{{Thread: i}}) {
			t.Errorf("box %d is %v", i, b)
		}
	}
}

// answers is what all calls say of a config at once.
func answers(c config.Config) [7]int {
	return [7]int{
		Nodes(c), Size(c), Cell(c, c.Items-1), Node(c, 0, 1),
		Slot(c, c.Items-1, 1, c.Width-1), Line(c, 0), Result(c, c.Threads-1),
	}
}

// R4, R5: the config that is handed in stays as it is, and the same is answered
// again, also if another one was asked of between.
func TestConfigsStay(t *testing.T) {
	for _, c := range good() {
		before, told := c, answers(c)
		for _, other := range good() {
			answers(other)
			Build(other)
			if answers(c) != told {
				t.Errorf("%+v answers %v, was %v", c, answers(c), told)
			}
			builtIs(t, c, Build(c), fresh(c))
		}
		if c != before {
			t.Errorf("the config became %+v, was %+v", c, before)
		}
	}
}

// Of configs that Check does not take nothing is promised; yet all calls end
// there, and none panics.
func TestAnyConfig(t *testing.T) {
	ends := []int{least, -1, 0, 1, greatest}
	for _, a := range ends {
		for _, b := range ends {
			for _, d := range ends {
				c := config.Config{Threads: a, Items: b, Backend: 1, Depth: d, Layers: a, Width: b, Init: d}
				answers(c)
				Build(c)
				Cell(c, d)
				Node(c, d, a)
				Slot(c, a, b, d)
			}
		}
	}
}
