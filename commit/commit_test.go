package commit

import (
	"fmt"
	"math"
	"reflect"
	"slices"
	"testing"

	"millstream/api"
	"millstream/arena"
	"millstream/batch"
	"millstream/config"
	"millstream/oper"
	"millstream/tape"
	"millstream/thread"
	"millstream/wmem"
)

const (
	least    = math.MinInt
	greatest = math.MaxInt
)

// configs answers one config of each backend, with and without bounds, and the
// least and the greatest one that may be.
func configs() []config.Config {
	return []config.Config{
		{Threads: 5, Items: 2, Backend: config.Cell, Width: 1, Init: -7},
		{Threads: 5, Items: 2, Backend: config.Tree, Depth: 2, Width: 1, Wait: 9},
		{Threads: 5, Items: 3, Backend: config.Funnel, Layers: 2, Width: 3, Spin: 4, Init: 5},
		{Threads: 5, Items: 3, Backend: config.Funnel, Layers: 2, Width: 3, Bounded: true, Lo: -10, Hi: 40, Init: 3},
		{Threads: 5, Items: 1, Backend: config.Tree, Depth: 1, Width: 8, Bounded: true, Lo: 0, Hi: 12},
		{Threads: 1, Items: 1, Backend: config.Cell, Width: 1},
		{Threads: 16, Items: 4, Backend: config.Funnel, Depth: 4, Layers: 3, Width: 8, Spin: 20, Wait: 1000},
	}
}

// funnel is a config of two layers, with three threads and two items.
func funnel() config.Config {
	return config.Config{Threads: 3, Items: 2, Backend: config.Funnel, Layers: 2, Width: 4, Init: 5}
}

// bounded is a config of one cell of 3, which is 0 at least and 9 at most.
func bounded() config.Config {
	return config.Config{Threads: 3, Items: 1, Backend: config.Cell, Width: 1, Bounded: true, Lo: 0, Hi: 9, Init: 3}
}

func add(v int) oper.Op  { return oper.Op{Tag: oper.Add, V: v} }
func sub(v int) oper.Op  { return oper.Op{Tag: oper.Sub, V: v} }
func put(v int) oper.Op  { return oper.Op{Tag: oper.Put, V: v} }
func take(v int) oper.Op { return oper.Op{Tag: oper.Take, V: v} }

// entries answers a batch of these ops, each of a thread of its own.
func entries(ops ...oper.Op) []batch.Entry {
	var b []batch.Entry
	for i, op := range ops {
		b = append(b, batch.Entry{Thread: i, Op: op})
	}
	return b
}

// changing answers a batch that changes a cell of any config here, of which one
// that is bounded refuses a part.
func changing(c config.Config) []batch.Entry {
	if c.Bounded {
		return entries(put(2), put(greatest), take(-1), put(4), take(1))
	}
	return entries(add(2), add(greatest), sub(5), add(11), sub(-3))
}

// idling answers a batch that leaves a cell of any config here as it is; one that
// is bounded refuses it in part.
func idling(c config.Config) []batch.Entry {
	if c.Bounded {
		return entries(put(4), put(greatest), take(4), take(0))
	}
	return entries(add(2), add(greatest), sub(2), sub(greatest))
}

// filled answers a turn of thread 0 of that item, all of whose fields are set,
// each word and number to one that no other has, its lists new each time. The
// cells are as they were built. Its thread has three kids.
func filled(c config.Config, item, phase int, b []batch.Entry) thread.Turn {
	m := arena.Build(c)
	for i := range m.Words {
		m.Words[i] = 1000 + i
	}
	for i := range c.Items {
		m.Words[arena.Cell(c, i)] = c.Init
	}
	for i := range m.Boxes {
		m.Boxes[i] = []batch.Entry{{Thread: i, Op: add(500 + i)}}
	}
	return thread.Turn{
		C: c, Now: 201, M: m,
		Th: thread.Thread{
			Phase: phase, Item: item, Op: add(202), Batch: b,
			Kids: []thread.Kid{{Thread: 2, Ahead: 1}, {Thread: 4, Ahead: 3}, {Thread: 3, Ahead: 4}},
			Held: []int{216, 217},
			Stop: 219, Node: 220, At: 221, Layer: 222, Left: 223, Width: 224, Who: 225, X: 226, Y: 227, Until: 228,
		},
		Tape: tape.Tape{L: []int{231, 232}, At: 1},
		Log:  []thread.Mark{{Thread: 241, Item: 242, Op: oper.Op{Tag: 243, V: 244}, Prior: 245, Step: 246}},
	}
}

// looked answers the turn of a thread that saw its cell as it is, and goes on to
// change it.
func looked(c config.Config, item int, b []batch.Entry) thread.Turn {
	u := filled(c, item, thread.Cas, b)
	u.Th.X = c.Init
	u.Th.Y = last(u, c.Init)
	return u
}

// copied answers a turn that shares no memory with u.
func copied(u thread.Turn) thread.Turn {
	u.M.Words = slices.Clone(u.M.Words)
	u.M.Boxes = slices.Clone(u.M.Boxes)
	for i, b := range u.M.Boxes {
		u.M.Boxes[i] = slices.Clone(b)
	}
	u.Th.Batch = slices.Clone(u.Th.Batch)
	u.Th.Kids = slices.Clone(u.Th.Kids)
	u.Th.Held = slices.Clone(u.Th.Held)
	u.Tape.L = slices.Clone(u.Tape.L)
	u.Log = slices.Clone(u.Log)
	return u
}

// changed answers a copy of u that the change was done to.
func changed(u thread.Turn, change func(u *thread.Turn)) thread.Turn {
	u = copied(u)
	change(&u)
	return u
}

// marked answers what is logged of u's batch at a cell of x, told op by op.
func marked(u thread.Turn, x int) []thread.Mark {
	var l []thread.Mark
	for _, e := range u.Th.Batch {
		l = append(l, thread.Mark{Thread: e.Thread, Item: u.Th.Item, Op: e.Op, Prior: x})
		x, _ = oper.Apply(e.Op, x, u.C.Lo, u.C.Hi)
	}
	return l
}

// last answers what u's batch leaves of a cell of x, told op by op.
func last(u thread.Turn, x int) int {
	for _, e := range u.Th.Batch {
		x, _ = oper.Apply(e.Op, x, u.C.Lo, u.C.Hi)
	}
	return x
}

// committed answers a copy of u behind a commit at x.
func committed(u thread.Turn, x int) thread.Turn {
	return changed(u, func(u *thread.Turn) {
		u.Log = append(u.Log, marked(*u, x)...)
		u.Th.X, u.Th.At = x, 0
		u.Th.Phase = thread.Share
		if len(u.Th.Kids) == 0 {
			u.Th.Phase, u.Done = thread.Idle, true
		}
	})
}

// is holds a turn against the wanted one. Nil lists and lists without elements
// are alike (R6), and fmt tells them alike.
func is(t *testing.T, what string, got, want thread.Turn) {
	t.Helper()
	if fmt.Sprintf("%+v", got) != fmt.Sprintf("%+v", want) {
		t.Errorf("%s:\n got %+v\nwant %+v", what, got, want)
	}
}

// stepsTo holds a step of one of this layer's phases against the wanted turn, and
// that it leaves what it was handed.
func stepsTo(t *testing.T, what string, u, want thread.Turn) thread.Turn {
	t.Helper()
	return stepped(t, what, u, want, true)
}

func stepped(t *testing.T, what string, u, want thread.Turn, wantIs bool) thread.Turn {
	t.Helper()
	was := copied(u)
	got, ours := Step(u)
	if ours != wantIs {
		t.Errorf("%s: Step tells %t", what, ours)
	}
	is(t, what, got, want)
	if !reflect.DeepEqual(u, was) {
		t.Errorf("%s: what was handed in changed: %+v, was %+v", what, u, was)
	}
	if again, _ := Step(u); !reflect.DeepEqual(again, got) {
		t.Errorf("%s: the same again is %+v, was %+v", what, again, got)
	}
	return got
}

// goesOn holds Onward against the wanted turn, and that it leaves what it was
// handed.
func goesOn(t *testing.T, what string, u, want thread.Turn) {
	t.Helper()
	was := copied(u)
	is(t, what, Onward(u), want)
	if !reflect.DeepEqual(u, was) {
		t.Errorf("%s: what was handed in changed: %+v, was %+v", what, u, was)
	}
}

// The configs of the tests are ones of which something is promised; their batches
// do what they are taken for.
func TestConfigsMayBe(t *testing.T) {
	for _, c := range append(configs(), funnel(), bounded()) {
		if wrong := config.Check(c); wrong != api.OK {
			t.Errorf("%+v: %d", c, wrong)
		}
		if x := last(filled(c, 0, thread.Load, changing(c)), c.Init); x == c.Init {
			t.Errorf("%+v: nothing changes", c)
		}
		if x := last(filled(c, 0, thread.Load, idling(c)), c.Init); x != c.Init {
			t.Errorf("%+v: %d changes to %d", c, c.Init, x)
		}
	}
}

// P12.2: the document's examples: Add 3, Sub 3 at a cell of 5 is committed at the
// load, told are 5 and 8; Take 5 of a cell of 3, with a floor of 0, leaves 0.
func TestExamples(t *testing.T) {
	c := config.Config{Threads: 2, Items: 1, Backend: config.Cell, Width: 1, Init: 5}
	u := thread.Turn{C: c, M: arena.Build(c)}
	u.Th = thread.Thread{Phase: thread.Load, Batch: entries(add(3), sub(3)), Width: 1}
	u, ours := Step(u)
	want := []thread.Mark{{Op: add(3), Prior: 5}, {Thread: 1, Op: sub(3), Prior: 8}}
	if !ours || !u.Done || u.Th.Phase != thread.Idle || u.M.Words[0] != 5 || !slices.Equal(u.Log, want) {
		t.Errorf("Add 3, Sub 3: %t, %+v", ours, u)
	}

	u = thread.Turn{C: bounded(), M: arena.Build(bounded())}
	u.Th = thread.Thread{Phase: thread.Load, Batch: entries(take(5))}
	u, _ = Step(u)
	if u.Th.Phase != thread.Cas || u.Th.X != 3 || u.Th.Y != 0 || u.M.Words[0] != 3 {
		t.Errorf("Take 5, looked: %+v", u)
	}
	u, _ = Step(u)
	want = []thread.Mark{{Op: take(5), Prior: 3}}
	if !u.Done || u.M.Words[0] != 0 || !slices.Equal(u.Log, want) {
		t.Errorf("Take 5, done: %+v", u)
	}
}

// P12.1: a thread goes on to the next layer just if there is one, and it is not
// late; all that is not named stays.
func TestOnward(t *testing.T) {
	for _, c := range configs() {
		for _, layer := range []int{least, -1, 0, 1, 2, 3, 4, greatest} {
			for _, x := range []struct {
				until, now int
				late       bool
			}{
				{0, 0, false}, {0, greatest, false}, {-1, 0, false}, {least, 1, false},
				{9, 8, false}, {9, 9, true}, {9, 10, true}, {greatest, 9, false}, {1, 1, true},
			} {
				for _, phase := range []int{thread.Try, thread.Leave, thread.Idle, thread.Show, -1, 99} {
					for _, done := range []bool{false, true} {
						u := filled(c, 0, phase, changing(c))
						u.Th.Layer, u.Th.Until, u.Now, u.Done = layer, x.until, x.now, done
						want := changed(u, func(u *thread.Turn) { u.Th.Phase = thread.Load })
						if layer < c.Layers && !x.late {
							want = changed(u, func(u *thread.Turn) { u.Th.Layer, u.Th.Phase = layer+1, thread.Show })
						}
						goesOn(t, fmt.Sprintf("layer %d of %d, %+v", layer, c.Layers, x), u, want)
					}
				}
			}
		}
	}
}

// P12.1: at the last layer but one there is one more, and behind the last one
// none; so it is with no layers, too.
func TestOnwardEdges(t *testing.T) {
	for _, x := range []struct {
		layers, layer, until, now int
		wantLayer, wantPhase      int
	}{
		{2, 0, 0, 0, 1, thread.Show},
		{2, 1, 0, 0, 2, thread.Show},
		{2, 2, 0, 0, 2, thread.Load},
		{2, 3, 0, 0, 3, thread.Load},
		{2, 1, 7, 6, 2, thread.Show},
		{2, 1, 7, 7, 1, thread.Load},
		{2, 1, 7, 8, 1, thread.Load},
		{2, 2, 7, 6, 2, thread.Load},
		{3, 2, 0, 99, 3, thread.Show},
		{0, 0, 0, 0, 0, thread.Load},
		{0, 1, 0, 0, 1, thread.Load},
		{0, 0, 7, 7, 0, thread.Load},
		{0, -1, 0, 0, 0, thread.Show},
	} {
		u := thread.Turn{Now: x.now}
		u.C.Layers, u.Th.Layer, u.Th.Until = x.layers, x.layer, x.until
		got := Onward(u)
		if got.Th.Layer != x.wantLayer || got.Th.Phase != x.wantPhase {
			t.Errorf("%+v: layer %d, phase %d", x, got.Th.Layer, got.Th.Phase)
		}
	}
}

// P12.2: the phases of this layer are three; of all others the turn is as it is.
func TestPhases(t *testing.T) {
	ours := []int{thread.Load, thread.Cas, thread.Try}
	others := []int{least, -99, -2, -1, 27, 28, 99, greatest, thread.Load + 1<<32, thread.Cas - 1<<32}
	for phase := thread.Idle; phase <= thread.Leave; phase++ {
		if slices.Contains(ours, phase) {
			if _, got := Step(filled(funnel(), 0, phase, nil)); !got {
				t.Errorf("phase %d is not taken", phase)
			}
			continue
		}
		others = append(others, phase)
	}
	for _, c := range configs() {
		for _, phase := range others {
			for _, done := range []bool{false, true} {
				for _, b := range [][]batch.Entry{nil, changing(c), idling(c)} {
					u := filled(c, 0, phase, b)
					u.Done = done
					stepped(t, fmt.Sprint("phase ", phase), u, copied(u), false)
				}
			}
		}
	}
}

// P12.2: a load of a batch that changes the cell tells what there is, and what it
// would become; nothing is committed yet.
func TestLoad(t *testing.T) {
	for _, c := range configs() {
		for item := range c.Items {
			for _, kids := range []int{0, 3} {
				for _, done := range []bool{false, true} {
					u := filled(c, item, thread.Load, changing(c))
					u.Th.Kids, u.Done = u.Th.Kids[:kids], done
					stepsTo(t, fmt.Sprint("load of item ", item), u, changed(u, func(u *thread.Turn) {
						u.Th.X, u.Th.Y = c.Init, last(*u, c.Init)
						u.Th.Phase = thread.Cas
					}))
				}
			}
		}
	}
}

// P12.2: loads that are told by hand: of any contents of the cell, of ops that go
// round, and of bounded ones that are refused or done in part.
func TestLoadNumbers(t *testing.T) {
	for _, x := range []struct {
		bounded  bool
		op       oper.Op
		cell, to int
	}{
		{false, add(2), 5, 7},
		{false, add(1), greatest, least},
		{false, sub(1), least, greatest},
		{false, add(-1), 0, -1},
		{false, oper.Op{Tag: oper.Swap, V: 8}, 5, 8},
		{false, oper.Op{Tag: oper.Max, V: 8}, 5, 8},
		{true, put(6), 3, 9},
		{true, take(2), 3, 1},
		{true, take(5), 3, 0},
	} {
		c := funnel()
		if x.bounded {
			c = bounded()
		}
		u := filled(c, 0, thread.Load, entries(x.op))
		u.M.Words[0] = x.cell
		stepsTo(t, fmt.Sprintf("%+v", x), u, changed(u, func(u *thread.Turn) {
			u.Th.X, u.Th.Y, u.Th.Phase = x.cell, x.to, thread.Cas
		}))
	}
}

// P12.2: a load, or a try, of a batch that leaves the cell as it is commits it at
// once; no word and no box changes.
func TestStill(t *testing.T) {
	for _, phase := range []int{thread.Load, thread.Try} {
		for _, c := range configs() {
			for item := range c.Items {
				for _, b := range [][]batch.Entry{idling(c), nil, {}} {
					for _, kids := range []int{0, 1, 3} {
						for _, done := range []bool{false, true} {
							u := filled(c, item, phase, b)
							u.Th.Kids, u.Done = u.Th.Kids[:kids], done
							stepsTo(t, fmt.Sprint("phase ", phase, ", ", len(b), " entries"), u, committed(u, c.Init))
						}
					}
				}
			}
		}
	}
}

// P12.2: ops that are all refused, or that leave a cell as it is at just these
// contents, are committed at the load, and at the try.
func TestStillNumbers(t *testing.T) {
	for _, phase := range []int{thread.Load, thread.Try} {
		for _, x := range []struct {
			bounded bool
			cell    int
			ops     []oper.Op
			priors  []int
		}{
			{false, 5, []oper.Op{add(3), sub(3)}, []int{5, 8}},
			{false, 5, []oper.Op{add(0)}, []int{5}},
			{false, 5, []oper.Op{{Tag: oper.Swap, V: 9}, {Tag: oper.Swap, V: 5}}, []int{5, 9}},
			{false, 5, []oper.Op{{Tag: oper.Min, V: 5}, {Tag: oper.Max, V: 5}}, []int{5, 5}},
			{false, greatest, []oper.Op{add(1), sub(1)}, []int{greatest, least}},
			{false, 5, []oper.Op{put(1), {Tag: 0, V: 7}, {Tag: 10, V: 7}}, []int{5, 5, 5}},
			{true, 3, []oper.Op{put(7)}, []int{3}},
			{true, 3, []oper.Op{put(7), take(3), put(10), put(3)}, []int{3, 3, 0, 0}},
			{true, 0, []oper.Op{take(5)}, []int{0}},
			{true, 3, []oper.Op{take(-1)}, []int{3}},
			{true, 9, []oper.Op{put(1), put(greatest)}, []int{9, 9}},
		} {
			c := funnel()
			if x.bounded {
				c = bounded()
			}
			u := filled(c, 0, phase, entries(x.ops...))
			u.M.Words[0] = x.cell
			got := stepsTo(t, fmt.Sprintf("%+v", x), u, committed(u, x.cell))
			for i, m := range got.Log[1:] {
				if m != (thread.Mark{Thread: i, Op: x.ops[i], Prior: x.priors[i]}) {
					t.Errorf("%+v: mark %d is %+v", x, i, m)
				}
			}
		}
	}
}

// P12.2: a try of a batch that changes the cell goes onward, and forgets what it
// saw.
func TestTry(t *testing.T) {
	for _, c := range configs() {
		for item := range c.Items {
			for _, layer := range []int{-1, 0, 1, 2, 3, 4} {
				for _, late := range []bool{false, true} {
					u := filled(c, item, thread.Try, changing(c))
					u.Th.Layer, u.Now = layer, u.Th.Until-1
					if late {
						u.Now++
					}
					want := changed(u, func(u *thread.Turn) { u.Th.Phase = thread.Load })
					if layer < c.Layers && !late {
						want = changed(u, func(u *thread.Turn) { u.Th.Layer, u.Th.Phase = layer+1, thread.Show })
					}
					stepsTo(t, fmt.Sprint("try at layer ", layer, ", late: ", late), u, want)
				}
			}
		}
	}
}

// P12.2: a comparison that holds makes the cell Y, and commits at X.
func TestCas(t *testing.T) {
	for _, c := range configs() {
		for item := range c.Items {
			for _, kids := range []int{0, 1, 3} {
				for _, done := range []bool{false, true} {
					u := looked(c, item, changing(c))
					u.Th.Kids, u.Done = u.Th.Kids[:kids], done
					want := committed(u, c.Init)
					want.M.Words[arena.Cell(c, item)] = last(u, c.Init)
					stepsTo(t, fmt.Sprint("cas of item ", item), u, want)
				}
			}
		}
	}
}

// P12.2: of the cell there becomes Y, whatever that is; X and Y may be the same,
// and the batch may be empty, or one that leaves the cell as it is.
func TestCasOfAnyNumbers(t *testing.T) {
	for _, c := range []config.Config{funnel(), bounded()} {
		for _, b := range [][]batch.Entry{nil, changing(c), idling(c)} {
			for _, x := range []int{least, -1, 0, 5, greatest} {
				for _, y := range []int{least, -1, 0, 5, greatest} {
					u := filled(c, 0, thread.Cas, b)
					u.M.Words[0], u.Th.X, u.Th.Y = x, x, y
					want := committed(u, x)
					want.M.Words[0] = y
					stepsTo(t, fmt.Sprint("cas from ", x, " to ", y), u, want)
				}
			}
		}
	}
}

// P12.2: a comparison that does not hold changes no word and logs nothing; the
// thread looks again, also where the cell is Y already, and where X and Y are the
// same.
func TestCasFails(t *testing.T) {
	for _, c := range configs() {
		for item := range c.Items {
			for _, x := range []struct{ cell, x, y int }{
				{5, 6, 7}, {5, 4, 5}, {5, 6, 6}, {0, 1, 0}, {1, 0, 1}, {least, 0, 1}, {greatest, least, 0}, {1 << 32, 0, 0}, {-1, greatest, 5},
			} {
				for _, done := range []bool{false, true} {
					u := filled(c, item, thread.Cas, changing(c))
					u.M.Words[arena.Cell(c, item)], u.Th.X, u.Th.Y, u.Done = x.cell, x.x, x.y, done
					stepsTo(t, fmt.Sprintf("item %d, %+v", item, x), u, changed(u, func(u *thread.Turn) {
						u.Th.Width, u.Th.Phase = c.Width, thread.Load
					}))
				}
			}
		}
	}
}

// P12.2: behind a comparison that did not hold the width is twice as much, but no
// more than the config's; twice goes round at 2^64 (R8).
func TestWidth(t *testing.T) {
	for _, x := range []struct{ most, width, want int }{
		{8, 1, 2}, {8, 2, 4}, {8, 3, 6}, {8, 4, 8}, {8, 5, 8}, {8, 7, 8}, {8, 8, 8}, {8, 9, 8}, {8, 16, 8},
		{1, 1, 1}, {1, 2, 1}, {1, 0, 0}, {1, -1, -2}, {3, 1, 2}, {3, 2, 3}, {3, 3, 3}, {3, 4, 3},
		{8, 0, 0}, {8, -1, -2}, {8, -5, -10}, {8, -1 << 32, -1 << 33},
		{8, greatest, 8}, {8, 1 << 62, 8}, {8, 1<<62 + 1, 8}, {8, greatest / 2, 8},
		{8, -1 << 62, least}, {8, -1<<62 - 1, 8}, {8, least + 1, 2}, {8, least, 0}, {1, least + 1, 1},
	} {
		c := funnel()
		c.Width = x.most
		u := filled(c, 1, thread.Cas, changing(c))
		u.Th.X, u.Th.Width = c.Init+1, x.width
		stepsTo(t, fmt.Sprintf("%+v", x), u, changed(u, func(u *thread.Turn) {
			u.Th.Width, u.Th.Phase = x.want, thread.Load
		}))
	}
}

// P12.2: the width changes at no other step.
func TestWidthStays(t *testing.T) {
	for _, width := range []int{least, -1, 0, 1, 4, 5, greatest} {
		for _, b := range [][]batch.Entry{nil, changing(funnel()), idling(funnel())} {
			turns := []thread.Turn{
				filled(funnel(), 0, thread.Load, b), filled(funnel(), 0, thread.Try, b), looked(funnel(), 0, b),
			}
			for _, u := range turns {
				u.Th.Width = width
				if got, _ := Step(u); got.Th.Width != width {
					t.Errorf("phase %d: width %d becomes %d", u.Th.Phase, width, got.Th.Width)
				}
			}
		}
	}
}

// P12.2: an item that there is not has no cell, and a memory without words has
// none either: nothing at all is done.
func TestNoCell(t *testing.T) {
	for _, phase := range []int{thread.Load, thread.Cas, thread.Try} {
		for _, c := range configs() {
			for _, b := range [][]batch.Entry{nil, changing(c), idling(c)} {
				for _, x := range []int{0, 1, c.Init} {
					for _, item := range []int{least, -c.Items, -1, c.Items, c.Items + 1, 1 << 62, greatest} {
						u := filled(c, 0, phase, b)
						u.Th.Item, u.Th.X = item, x
						stepsTo(t, fmt.Sprint("phase ", phase, ", item ", item), u, copied(u))
					}
					u := filled(c, 0, phase, b)
					u.M, u.Th.X = wmem.Mem{}, x
					stepsTo(t, fmt.Sprint("phase ", phase, ", no memory"), u, copied(u))
				}
			}
		}
	}
}

// P12.2: of several items' cells the last one's may be the only one that lacks.
func TestMemoryThatIsTooSmall(t *testing.T) {
	for _, phase := range []int{thread.Load, thread.Cas, thread.Try} {
		c := funnel()
		u := filled(c, 1, phase, idling(c))
		u.Th.X, u.Th.Y, u.Th.Kids = c.Init, c.Init, nil
		at := arena.Cell(c, 1)
		u.M.Words = u.M.Words[:at+1]
		stepsTo(t, fmt.Sprint("phase ", phase, ", the cell is the last word"), u, committed(u, c.Init))
		u.M.Words = u.M.Words[:at:at]
		stepsTo(t, fmt.Sprint("phase ", phase, ", the cell lacks"), u, copied(u))
	}
}

// To commit: the log has the marks behind what it has, be that nothing, one or
// several ones; of a batch without entries it stays.
func TestLog(t *testing.T) {
	c := bounded()
	b := []batch.Entry{{Thread: 2, Op: put(4)}, {Thread: 2, Op: put(4)}, {Thread: 0, Op: take(20)}, {Thread: 77, Op: put(3)}, {Thread: -1, Op: take(0)}}
	marks := []thread.Mark{
		{Thread: 2, Op: put(4), Prior: 3},
		// Refused: 11 is above the ceiling.
		{Thread: 2, Op: put(4), Prior: 7},
		{Thread: 0, Op: take(20), Prior: 7},
		{Thread: 77, Op: put(3), Prior: 0},
		{Thread: -1, Op: take(0), Prior: 3},
	}
	old := []thread.Mark{{Thread: 9, Item: 8, Op: add(7), Prior: 6, Step: 5}, {Step: 4}, {Item: 3}}
	for _, phase := range []int{thread.Load, thread.Cas, thread.Try} {
		for had := range 4 {
			for n := range len(b) + 1 {
				u := filled(c, 0, phase, b[:n])
				u.Log, u.Th.X, u.Th.Y = slices.Clone(old[:had]), 3, 3
				if phase != thread.Cas && n != 0 && n != len(b) {
					// Parts of the batch change the cell; it is committed at the comparison.
					continue
				}
				got, _ := Step(u)
				if want := slices.Concat(old[:had], marks[:n]); !slices.Equal(got.Log, want) {
					t.Errorf("phase %d, %d entries behind %d marks: %+v", phase, n, had, got.Log)
				}
			}
		}
	}
}

// R4: two turns that go on from one log with room behind it do not write over one
// another's marks, nor into that room.
func TestLogHasItsOwnMemory(t *testing.T) {
	room := make([]thread.Mark, 1, 50)
	room[0].Thread = 12
	u := looked(funnel(), 0, changing(funnel()))
	u.Log = room
	v := copied(u)
	v.Th.Batch, v.Log = entries(sub(1), sub(2)), room
	first, _ := Step(u)
	was := copied(first)
	second, _ := Step(v)
	is(t, "the first one's turn behind the second one's", first, was)
	if len(first.Log) != 6 || len(second.Log) != 3 {
		t.Errorf("logs of %d and %d", len(first.Log), len(second.Log))
	}
	for i, m := range room[1:cap(room)] {
		if m != (thread.Mark{}) {
			t.Errorf("written into the room at %d: %+v", i, m)
		}
	}
}

// P12.2, P12.3: of two threads that looked at one cell the first one commits, and
// the other one looks again.
func TestTwoThreads(t *testing.T) {
	c := funnel()
	a, b := filled(c, 1, thread.Load, entries(add(2))), filled(c, 1, thread.Load, entries(add(10)))
	a.Th.Kids, b.Th.Kids, a.Th.Width, b.Th.Width = nil, nil, 1, 1
	b.T, b.Log = 1, nil
	a, _ = Step(a)
	b.M = a.M
	b, _ = Step(b)
	a.M = b.M
	a, _ = Step(a)
	if !a.Done || a.Th.X != 5 || a.M.Words[arena.Cell(c, 1)] != 7 || a.Th.Width != 1 {
		t.Fatalf("the first one: %+v", a)
	}
	b.M = a.M
	b = stepsTo(t, "the second one", b, changed(b, func(b *thread.Turn) { b.Th.Phase, b.Th.Width = thread.Load, 2 }))
	b, _ = Step(b)
	if b.Th.Phase != thread.Cas || b.Th.X != 7 || b.Th.Y != 17 {
		t.Errorf("the second one, again: %+v", b.Th)
	}
	b, _ = Step(b)
	if !b.Done || b.Th.X != 7 || b.M.Words[arena.Cell(c, 1)] != 17 || len(b.Log) != 1 || b.Log[0].Prior != 7 {
		t.Errorf("the second one, done: %+v", b)
	}
	if x := b.M.Words[arena.Cell(c, 0)]; x != 5 {
		t.Errorf("the other item's cell is %d", x)
	}
}

// P12.2: by the words of the document the comparison alone decides: a cell that
// went to another number and back is what the thread saw.
func TestCellThatCameBack(t *testing.T) {
	c := funnel()
	u := filled(c, 0, thread.Load, entries(add(1)))
	u, _ = Step(u)
	u.M, _ = wmem.Store(u.M, 0, 99)
	u.M, _ = wmem.Store(u.M, 0, c.Init)
	u, _ = Step(u)
	if u.Th.Phase != thread.Share || u.M.Words[0] != 6 {
		t.Errorf("%+v", u)
	}
}

// crew is threads at the cells of one memory, and what they logged.
type crew struct {
	c       config.Config
	m       wmem.Mem
	threads []thread.Thread
	log     []thread.Mark
}

// pick does a step of thread who, and holds it against P12.3.
func (w *crew) pick(t *testing.T, who int) {
	u := thread.Turn{C: w.c, T: who, M: w.m, Th: w.threads[who]}
	v, ours := Step(u)
	if !ours {
		return
	}
	at := arena.Cell(w.c, u.Th.Item)
	from, to := u.M.Words[at], v.M.Words[at]
	if v.Done != (len(v.Log) > 0) {
		t.Fatalf("done: %t, log: %+v", v.Done, v.Log)
	}
	if v.Done && (v.Log[0].Prior != from || !slices.Equal(v.Log, marked(u, from)) || to != last(u, from)) {
		t.Fatalf("from %d to %d: %+v", from, to, v.Log)
	}
	if !v.Done && from != to {
		t.Fatalf("phase %d: from %d to %d, and nothing is logged", u.Th.Phase, from, to)
	}
	for i := range v.M.Words {
		if i != at && v.M.Words[i] != u.M.Words[i] {
			t.Fatalf("word %d became %d", i, v.M.Words[i])
		}
	}
	if !reflect.DeepEqual(v.M.Boxes, u.M.Boxes) {
		t.Fatalf("boxes: %+v", v.M.Boxes)
	}
	w.m, w.threads[who] = v.M, v.Th
	w.log = append(w.log, v.Log...)
}

// chained holds that each item's cell is what its log tells, op after op.
func (w *crew) chained(t *testing.T) {
	for item := range w.c.Items {
		x := w.c.Init
		for _, m := range w.log {
			if m.Item != item {
				continue
			}
			if m.Prior != x {
				t.Fatalf("item %d: prior %d, in the cell is %d: %+v", item, m.Prior, x, w.log)
			}
			x, _ = oper.Apply(m.Op, x, w.c.Lo, w.c.Hi)
		}
		if is := w.m.Words[arena.Cell(w.c, item)]; is != x {
			t.Fatalf("item %d: in the cell is %d, the log tells %d: %+v", item, is, x, w.log)
		}
	}
}

// P12.3: however three threads are picked, a cell changes just when a batch is
// committed, from what was ahead of its first op to what is behind its last one.
func TestAllOrders(t *testing.T) {
	plain := func() []thread.Thread {
		return []thread.Thread{
			{Phase: thread.Load, Width: 1, Batch: entries(add(2), oper.Op{Tag: oper.Swap, V: 40})},
			{Phase: thread.Try, Width: 1, Batch: entries(sub(3), add(3), add(1))},
			{Phase: thread.Load, Width: 1, Batch: entries(oper.Op{Tag: oper.Min, V: 4})},
		}
	}
	withBounds := func() []thread.Thread {
		return []thread.Thread{
			{Phase: thread.Load, Width: 1, Batch: entries(put(5), put(5))},
			{Phase: thread.Try, Width: 1, Batch: entries(take(20), put(1))},
			{Phase: thread.Load, Width: 1, Batch: entries(take(4))},
		}
	}
	one := funnel()
	one.Layers = 0
	for _, x := range []struct {
		c       config.Config
		threads func() []thread.Thread
	}{{one, plain}, {bounded(), withBounds}} {
		const picks = 8
		for order := range 6561 { // 3 to the 8
			w := crew{c: x.c, m: arena.Build(x.c), threads: x.threads()}
			w.threads[2].Item = x.c.Items - 1
			for rest := order + 6561; rest > 1; rest /= 3 {
				w.pick(t, rest%3)
			}
			// Whoever is not done yet gets all the steps that it needs.
			for who := range w.threads {
				for range picks {
					w.pick(t, who)
				}
				if thread.Busy(w.threads[who]) {
					t.Fatalf("order %d: thread %d is at %+v", order, who, w.threads[who])
				}
			}
			w.chained(t)
		}
	}
}

// R1: at any numbers no call panics.
func TestAnyNumbers(t *testing.T) {
	numbers := []int{least, -1 << 32, -1, 0, 1, 3, 1 << 32, greatest}
	for _, a := range numbers {
		for _, b := range numbers {
			for phase := -1; phase <= 27; phase++ {
				u := filled(funnel(), 0, phase, []batch.Entry{{Thread: a, Op: oper.Op{Tag: b, V: a}}})
				u.C.Threads, u.C.Items, u.C.Depth, u.C.Layers, u.C.Width = a, b, a, b, a
				u.C.Bounded, u.C.Lo, u.C.Hi = true, b, a
				u.T, u.Th.Item, u.Th.Layer, u.Th.Width, u.Th.Until = b, a, b, b, a
				Step(u)
				Onward(u)
				Step(thread.Turn{T: a, Th: thread.Thread{Phase: phase, At: b}})
			}
		}
	}
}
