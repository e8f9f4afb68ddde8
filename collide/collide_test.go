package collide

import (
	"fmt"
	"math"
	"reflect"
	"slices"
	"testing"

	"millstream/api"
	"millstream/arena"
	"millstream/batch"
	"millstream/code"
	"millstream/config"
	"millstream/oper"
	"millstream/tape"
	"millstream/thread"
	"millstream/wmem"
)

const (
	least    = math.MinInt
	greatest = math.MaxInt
)

// configs answers configs with one to three layers, of each backend, with deadlines
// and without, and the greatest one that may be.
func configs() []config.Config {
	return []config.Config{
		{Threads: 2, Items: 1, Backend: config.Funnel, Layers: 1, Width: 1},
		{Threads: 5, Items: 3, Backend: config.Funnel, Layers: 2, Width: 3, Spin: 4, Init: 5},
		{Threads: 8, Items: 2, Backend: config.Funnel, Layers: 3, Width: 2, Spin: 1, Wait: 9, Bounded: true, Lo: -10, Hi: 40, Init: 3},
		{Threads: 1, Items: 2, Backend: config.Cell, Layers: 3, Width: 8, Spin: 7},
		{Threads: 4, Items: 2, Backend: config.Tree, Depth: 2, Layers: 1, Width: 4, Spin: 2},
		{Threads: 16, Items: 4, Backend: config.Funnel, Depth: 4, Layers: 3, Width: 8, Spin: 20, Wait: 1000},
	}
}

// funnel is a config of as many threads, items, layers and slots as may be.
func funnel() config.Config {
	return config.Config{Threads: api.MaxThreads, Items: api.MaxItems, Backend: config.Funnel, Layers: api.MaxLayers, Width: api.MaxWidth, Spin: 3}
}

// without answers a config without layers.
func without() config.Config {
	return config.Config{Threads: 3, Items: 2, Backend: config.Funnel, Width: 2, Spin: 2}
}

// entry answers an entry of that thread, with an op that no other thread has.
func entry(who int) batch.Entry {
	return batch.Entry{Thread: who, Op: oper.Op{Tag: oper.Add, V: 500 + who}}
}

// entries answers entries of these threads, in new memory.
func entries(who ...int) []batch.Entry {
	b := []batch.Entry{}
	for _, t := range who {
		b = append(b, entry(t))
	}
	return b
}

// filled answers a turn of thread t at that layer of that item, all of whose fields
// are set, each word and number to one that no other has, its lists new each time.
func filled(c config.Config, t, item, layer, phase int) thread.Turn {
	m := arena.Build(c)
	for i := range m.Words {
		// None of these is a word that says anything.
		m.Words[i] = 7 + 8*(1000+i)
	}
	for i := range m.Boxes {
		m.Boxes[i] = entries(i)
	}
	return thread.Turn{
		C: c, T: t, Now: 201, M: m,
		Th: thread.Thread{
			Phase: phase, Item: item, Op: oper.Op{Tag: 202, V: 203},
			Batch: []batch.Entry{{Thread: 204, Op: oper.Op{Tag: 205, V: 206}}, {Thread: 207, Op: oper.Op{Tag: 208, V: 209}}},
			Kids:  []thread.Kid{{Thread: 210, Ahead: 211}, {Thread: 212, Ahead: 213}},
			Held:  []int{216, 217},
			Stop:  219, Node: 220, At: 221, Layer: layer, Left: 223, Width: c.Width, Who: 0, X: 226, Y: 227, Until: 228,
		},
		Tape: tape.Tape{L: []int{231, 232, 233}, At: 1},
		Log:  []thread.Mark{{Thread: 241, Item: 242, Op: oper.Op{Tag: 243, V: 244}, Prior: 245, Step: 246}},
	}
}

// open answers the word that is open at that layer of that item, told by hand.
func open(item, layer int) int { return 8*(16*item+layer+1) + 4 }

// ours answers the open word of u's thread.
func ours(u thread.Turn) int { return open(u.Th.Item, u.Th.Layer) }

// lined makes w the word of that thread's line.
func lined(u thread.Turn, who, w int) thread.Turn {
	u.M.Words[arena.Line(u.C, who)] = w
	return u
}

// slotted makes w the word of that slot of u's item and layer.
func slotted(u thread.Turn, i, w int) thread.Turn {
	u.M.Words[arena.Slot(u.C, u.Th.Item, u.Th.Layer, i)] = w
	return u
}

// copied answers a turn that shares no memory with u.
func copied(u thread.Turn) thread.Turn {
	u.M.Words = slices.Clone(u.M.Words)
	u.M.Boxes = slices.Clone(u.M.Boxes)
	for i, b := range u.M.Boxes {
		u.M.Boxes[i] = slices.Clone(b)
	}
	u.Th.Batch = slices.Clone(u.Th.Batch)
	u.Th.Kids = slices.Clone(u.Th.Kids)
	u.Th.Held = slices.Clone(u.Th.Held)
	u.Tape.L = slices.Clone(u.Tape.L)
	u.Log = slices.Clone(u.Log)
	return u
}

// changed answers a copy of u that the change was done to.
func changed(u thread.Turn, change func(u *thread.Turn)) thread.Turn {
	u = copied(u)
	change(&u)
	return u
}

// late tells whether u's thread has waited as long as it may, told by hand.
func late(u thread.Turn) bool { return u.Th.Until > 0 && u.Now >= u.Th.Until }

// onward does to u what a thread does that could not do its batch yet, as the
// document tells it.
func onward(u *thread.Turn) {
	if u.Th.Layer < u.C.Layers && !late(*u) {
		u.Th.Layer++
		u.Th.Phase = thread.Show
		return
	}
	u.Th.Phase = thread.Load
}

// is holds a turn against the wanted one. Nil lists and lists without elements
// are alike (R6), and fmt tells them alike.
func is(t *testing.T, what string, got, want thread.Turn) {
	t.Helper()
	// To tell a memory as text takes long.
	if !reflect.DeepEqual(got, want) && fmt.Sprintf("%+v", got) != fmt.Sprintf("%+v", want) {
		t.Errorf("%s:\n got %+v\nwant %+v", what, got, want)
	}
}

// stepsTo holds a step of one of this layer's phases against the wanted turn, and
// that it leaves what it was handed.
func stepsTo(t *testing.T, what string, u, want thread.Turn) thread.Turn {
	t.Helper()
	return stepped(t, what, u, want, true)
}

func stepped(t *testing.T, what string, u, want thread.Turn, wantIs bool) thread.Turn {
	t.Helper()
	was := copied(u)
	got, taken := Step(u)
	if taken != wantIs {
		t.Errorf("%s: Step tells %t", what, taken)
	}
	is(t, what, got, want)
	if !reflect.DeepEqual(u, was) {
		t.Errorf("%s: what was handed in changed: %+v, was %+v", what, u, was)
	}
	if again, _ := Step(u); !reflect.DeepEqual(again, got) {
		t.Errorf("%s: the same again is %+v, was %+v", what, again, got)
	}
	return got
}

// goesTo holds that the step does nothing but go on to that phase.
func goesTo(t *testing.T, what string, u thread.Turn, phase int) thread.Turn {
	t.Helper()
	return stepsTo(t, what, u, changed(u, func(u *thread.Turn) { u.Th.Phase = phase }))
}

// phases answers the phases of this layer.
func phases() []int {
	return []int{thread.Show, thread.Opening, thread.Swap, thread.Shut, thread.Capture, thread.Absorb, thread.Spin, thread.Reopen, thread.Leave}
}

// atBoxes answers the phases of this layer that put into a box, or read it.
func atBoxes() []int { return []int{thread.Show, thread.Absorb} }

// words answers words that a line may have, of each kind, and words that say
// nothing.
func words() []int {
	l := []int{
		0, code.Told(), 7, 6, 8, 1, 2, 3, 4, 12, 13, -1, -4, -8, least, greatest, 1 << 32, 1<<32 + 20,
		open(0, 0), open(0, 4), open(0, 15), open(api.MaxItems, 1), open(-1, 1),
	}
	for item := range api.MaxItems {
		for layer := 1; layer <= api.MaxLayers; layer++ {
			l = append(l, open(item, layer))
		}
	}
	for t := range api.MaxThreads {
		l = append(l, code.First(t), code.Joined(t), code.Deposited(t))
	}
	return l
}

// everyTurn goes through turns in that phase of the first and of the last item of
// each config, at each layer that may be, whether there is one of the config or
// not, before the deadline, at it, behind it and without one, and that are done and
// not; every other one is of the first thread, and the rest of the last one.
func everyTurn(phase int, each func(what string, u thread.Turn)) {
	for _, c := range append(configs(), without()) {
		who, clock := 0, 0
		for _, item := range []int{0, c.Items - 1} {
			for layer := 1; layer <= api.MaxLayers; layer++ {
				for range 6 {
					u := filled(c, who, item, layer, phase)
					u.Th.Until, u.Now = []int{0, 9, 9, 9, -1, 0}[clock], []int{9, 8, 9, greatest, greatest, least}[clock]
					u.Done = clock%2 == 0
					each(fmt.Sprintf("%+v: thread %d, item %d, layer %d, at %d of %d", c, who, item, layer, u.Now, u.Th.Until), u)
					who, clock = c.Threads-1-who, (clock+1)%6
				}
			}
		}
	}
}

// The configs of the tests are ones of which something is promised.
func TestConfigsMayBe(t *testing.T) {
	for _, c := range append(configs(), funnel(), without()) {
		if wrong := config.Check(c); wrong != api.OK {
			t.Errorf("%+v: %d", c, wrong)
		}
	}
}

// P15.1: the document's example: a slot of 0, in the phase Swap.
func TestExample(t *testing.T) {
	c := config.Config{Threads: 2, Items: 1, Backend: config.Funnel, Layers: 1, Width: 1, Spin: 6}
	u, is := Step(thread.Turn{C: c, T: 1, M: arena.Build(c), Th: thread.Thread{Phase: thread.Swap, Layer: 1, Width: 1}})
	if !is || u.Th.Phase != thread.Spin || u.Th.Left != 6 || !slices.Equal(u.M.Words, []int{0, 2, 0, 0, 0, 0}) {
		t.Errorf("%t, %+v, %v", is, u.Th, u.M.Words)
	}
}

// P15.1: the phases of this layer are nine; of all others the turn is as it is,
// whatever the words say.
func TestPhases(t *testing.T) {
	others := []int{least, -99, -2, -1, 27, 28, 99, greatest, thread.Show + 1<<32, thread.Leave - 1<<32, -thread.Show, -thread.Leave}
	for phase := thread.Idle; phase <= thread.Leave; phase++ {
		if slices.Contains(phases(), phase) {
			if _, got := Step(filled(funnel(), 1, 0, 1, phase)); !got {
				t.Errorf("phase %d is not taken", phase)
			}
			continue
		}
		others = append(others, phase)
	}
	if len(others) != 12+27-9 {
		t.Errorf("%d phases", len(others))
	}
	for _, phase := range others {
		everyTurn(phase, func(what string, u thread.Turn) {
			for _, w := range []int{0, ours(u), code.Told()} {
				u = lined(u, u.T, w)
				stepped(t, fmt.Sprint(what, ", phase ", phase), u, copied(u), false)
			}
		})
	}
}

// P15.1: the batch is put into the thread's own box, over what was there, be it
// nothing; no word changes.
func TestShow(t *testing.T) {
	everyTurn(thread.Show, func(what string, u thread.Turn) {
		for _, b := range [][]batch.Entry{nil, {}, entries(u.T), entries(u.T, 3, 12, 3), {{}}} {
			u.Th.Batch = b
			stepsTo(t, fmt.Sprint(what, ", the batch is ", b), u, changed(u, func(u *thread.Turn) {
				u.M.Boxes[u.T] = slices.Clone(b)
				u.Th.Phase = thread.Opening
			}))
		}
	})
	for who := range api.MaxThreads {
		for _, b := range [][]batch.Entry{nil, entries(who), entries(7, who, 3)} {
			u := filled(funnel(), who, 3, 2, thread.Show)
			u.Th.Batch = b
			got := stepsTo(t, fmt.Sprint("thread ", who), u, changed(u, func(u *thread.Turn) {
				u.M.Boxes[who] = slices.Clone(b)
				u.Th.Phase = thread.Opening
			}))
			if !slices.Equal(got.M.Boxes[who], b) {
				t.Errorf("box %d has %v", who, got.M.Boxes[who])
			}
		}
	}
}

// P15.1: the open word is stored as the thread's line, whatever that was; one that
// opens again has all its looks before it.
func TestOpening(t *testing.T) {
	for _, x := range []struct{ phase, then int }{{thread.Opening, thread.Swap}, {thread.Reopen, thread.Spin}} {
		everyTurn(x.phase, func(what string, u thread.Turn) {
			for _, w := range []int{0, ours(u), code.Told(), open(0, 1), 7} {
				u = lined(u, u.T, w)
				stepsTo(t, fmt.Sprint(what, ", the line is ", w), u, changed(u, func(u *thread.Turn) {
					lined(*u, u.T, ours(*u))
					u.Th.Phase = x.then
					if x.phase == thread.Reopen {
						u.Th.Left = u.C.Spin
					}
				}))
			}
		})
	}
}

// P15.1: each item and each layer has its own open word, told by hand.
func TestOpeningEdges(t *testing.T) {
	want := []int{20, 28, 36, 148, 156, 164, 276, 284, 292, 404, 412, 420}
	for _, phase := range []int{thread.Opening, thread.Reopen} {
		for item := range api.MaxItems {
			for layer := 1; layer <= api.MaxLayers; layer++ {
				for who := range api.MaxThreads {
					u := filled(funnel(), who, item, layer, phase)
					got, _ := Step(u)
					// 25 words an item, and 2 a thread.
					line := 4*25 + 2*who
					words := slices.Clone(u.M.Words)
					words[line] = want[3*item+layer-1]
					if !slices.Equal(got.M.Words, words) {
						t.Errorf("phase %d, thread %d, item %d, layer %d: %v, was %v", phase, who, item, layer, got.M.Words, u.M.Words)
					}
				}
			}
		}
	}
}

// swapped does to u what a swap does at a slot that there is.
func swapped(u *thread.Turn, slot, was, drawn int) {
	slotted(*u, slot, u.T+1)
	u.Tape.At += drawn
	u.Th.Left, u.Th.Phase = u.C.Spin, thread.Spin
	if was >= 1 && was <= u.C.Threads && was != u.T+1 {
		u.Th.Left, u.Th.Phase, u.Th.Who = 223, thread.Shut, was-1
	}
}

// P15.1: at each word that a slot may have, the thread goes on to shut itself, if
// another thread's number is there, and else spins; either way its own number
// stands there.
func TestSwap(t *testing.T) {
	everyTurn(thread.Swap, func(what string, u thread.Turn) {
		if u.Th.Layer > u.C.Layers {
			stepsTo(t, what, u, copied(u))
			return
		}
		n := u.C.Threads
		slot := 232 % u.C.Width
		for _, w := range []int{0, 1, 2, n - 1, n, n + 1, u.T, u.T + 1, u.T + 2, -1, -u.T - 1, 17, least, greatest, 1 << 32, 1<<32 + 1, ours(u)} {
			u = slotted(u, slot, w)
			u.Th.Who = 225
			stepsTo(t, fmt.Sprint(what, ", the slot is ", w), u, changed(u, func(u *thread.Turn) { swapped(u, slot, w, 1) }))
		}
	})
}

// P15.1: the words that a slot may have, each with what follows, told by hand; and
// so of each thread.
func TestSwapEdges(t *testing.T) {
	for _, x := range []struct{ threads, who, was, phase, whom int }{
		{5, 2, 0, thread.Spin, 99}, {5, 2, 1, thread.Shut, 0}, {5, 2, 2, thread.Shut, 1},
		{5, 2, 3, thread.Spin, 99}, {5, 2, 4, thread.Shut, 3}, {5, 2, 5, thread.Shut, 4},
		{5, 2, 6, thread.Spin, 99}, {5, 2, 16, thread.Spin, 99}, {5, 2, -1, thread.Spin, 99},
		{5, 2, least, thread.Spin, 99}, {5, 2, greatest, thread.Spin, 99},
		{5, 0, 1, thread.Spin, 99}, {5, 0, 2, thread.Shut, 1}, {5, 4, 5, thread.Spin, 99}, {5, 4, 4, thread.Shut, 3},
		{16, 0, 16, thread.Shut, 15}, {16, 0, 17, thread.Spin, 99}, {16, 15, 1, thread.Shut, 0}, {16, 15, 16, thread.Spin, 99},
		{1, 0, 1, thread.Spin, 99}, {1, 0, 2, thread.Spin, 99}, {1, 0, 0, thread.Spin, 99},
		{2, 0, 2, thread.Shut, 1}, {2, 1, 1, thread.Shut, 0}, {2, 1, 2, thread.Spin, 99}, {2, 1, 3, thread.Spin, 99},
	} {
		c := config.Config{Threads: x.threads, Items: 1, Backend: config.Funnel, Layers: 1, Width: 2, Spin: 11}
		m := arena.Build(c)
		m.Words[2] = x.was
		u := thread.Turn{C: c, T: x.who, M: m, Tape: tape.Tape{L: []int{5}}}
		u.Th = thread.Thread{Phase: thread.Swap, Layer: 1, Width: 2, Left: 77, Who: 99}
		stepsTo(t, fmt.Sprintf("%+v", x), u, changed(u, func(u *thread.Turn) {
			u.M.Words[2], u.Tape.At = x.who+1, 1
			u.Th.Phase, u.Th.Who = x.phase, x.whom
			if x.phase == thread.Spin {
				u.Th.Left = 11
			}
		}))
	}
}

// P15.1: which slot it is, told by hand: the draw modulo the thread's Width, not
// the config's; a draw that is left is taken, and where none is left it is 0. Of a
// Width below 1 the slot is 0, and the tape stays.
func TestSwapDraws(t *testing.T) {
	for _, x := range []struct {
		draws          []int
		at, width      int
		slot, behindAt int
	}{
		{[]int{0}, 0, 1, 0, 1}, {[]int{7}, 0, 1, 0, 1}, {[]int{-7}, 0, 1, 0, 1},
		{[]int{0}, 0, 2, 0, 1}, {[]int{1}, 0, 2, 1, 1}, {[]int{2}, 0, 2, 0, 1}, {[]int{-1}, 0, 2, 1, 1},
		{[]int{5}, 0, 3, 2, 1}, {[]int{-1}, 0, 3, 2, 1}, {[]int{-4}, 0, 3, 2, 1},
		{[]int{3}, 0, 4, 3, 1}, {[]int{9}, 0, 5, 4, 1}, {[]int{11}, 0, 6, 5, 1}, {[]int{-8}, 0, 7, 6, 1},
		{[]int{7}, 0, 8, 7, 1}, {[]int{15}, 0, 8, 7, 1}, {[]int{8}, 0, 8, 0, 1}, {[]int{greatest}, 0, 8, 7, 1}, {[]int{least}, 0, 8, 0, 1},
		{[]int{5, 6, 7}, 0, 8, 5, 1}, {[]int{5, 6, 7}, 1, 8, 6, 2}, {[]int{5, 6, 7}, 2, 8, 7, 3},
		{[]int{5, 6, 7}, 3, 8, 0, 3}, {[]int{5, 6, 7}, 4, 8, 0, 4}, {[]int{5, 6, 7}, -1, 8, 0, -1},
		{nil, 0, 8, 0, 0}, {nil, 0, 1, 0, 0}, {nil, 5, 8, 0, 5},
		{[]int{5, 6, 7}, 0, 0, 0, 0}, {[]int{5, 6, 7}, 1, -1, 0, 1}, {[]int{5}, 0, least, 0, 0}, {nil, 0, 0, 0, 0},
		// A Width above the config's may draw a slot that there is.
		{[]int{7}, 0, 9, 7, 1}, {[]int{104}, 0, 100, 4, 1}, {[]int{3}, 0, greatest, 3, 1},
	} {
		for _, was := range []int{0, 6, 13} {
			for item := range api.MaxItems {
				for layer := 1; layer <= api.MaxLayers; layer++ {
					u := filled(funnel(), 5, item, layer, thread.Swap)
					u.Tape, u.Th.Width = tape.Tape{L: x.draws, At: x.at}, x.width
					// 25 words an item: a cell, and 8 slots a layer.
					place := 25*item + 1 + 8*(layer-1) + x.slot
					u.M.Words[place] = was
					got := stepsTo(t, fmt.Sprintf("%+v, item %d, layer %d", x, item, layer), u, changed(u, func(u *thread.Turn) {
						swapped(u, x.slot, was, x.behindAt-x.at)
					}))
					if got.M.Words[place] != 6 || got.Tape.At != x.behindAt {
						t.Errorf("%+v, item %d, layer %d: %v, %v", x, item, layer, got.M.Words, got.Tape)
					}
				}
			}
		}
	}
}

// P15.1: each draw at each Width that may be is a slot; no other one changes.
func TestSwapWidths(t *testing.T) {
	for width := 1; width <= api.MaxWidth; width++ {
		c := funnel()
		c.Width = width
		for its := 0; its <= width; its++ {
			for draw := -9; draw <= 17; draw++ {
				u := filled(c, 3, 1, 2, thread.Swap)
				u.Th.Width, u.Tape = its, tape.Tape{L: []int{99, draw, 98}, At: 1}
				slot, drawn := 0, 0
				if its > 0 {
					slot, drawn = (draw+9*its)%its, 1
				}
				u = slotted(u, slot, 1)
				stepsTo(t, fmt.Sprint("width ", its, " of ", width, ", draw ", draw), u, changed(u, func(u *thread.Turn) { swapped(u, slot, 1, drawn) }))
			}
		}
	}
}

// P15.1: where there is no such slot, nothing changes, the tape neither: of a draw
// as great as the config's Width, of a layer that the config has not, of an item
// that there is not, and of a memory that lacks the word.
func TestSwapAtNoSlot(t *testing.T) {
	for _, c := range append(configs(), without()) {
		for layer := 1; layer <= api.MaxLayers; layer++ {
			u := filled(c, 0, 0, layer, thread.Swap)
			for i := range u.M.Words {
				// Whoever swaps another word meets a thread.
				u.M.Words[i] = 2
			}
			for _, draw := range []int{c.Width, c.Width + 1, 99, -1} {
				v := copied(u)
				v.Tape, v.Th.Width = tape.Tape{L: []int{draw, 0}}, 100
				stepsTo(t, fmt.Sprintf("%+v: layer %d, draw %d", c, layer, draw), v, copied(v))
			}
			if layer > c.Layers {
				for width := range 9 {
					u.Th.Width = width
					stepsTo(t, fmt.Sprintf("%+v: layer %d, width %d", c, layer, width), u, copied(u))
				}
			}
		}
	}
	for _, item := range []int{least, -4, -1, 4, 5, 1 << 62, greatest} {
		u := filled(funnel(), 1, item, 1, thread.Swap)
		stepsTo(t, fmt.Sprint("item ", item), u, copied(u))
	}
	c := config.Config{Threads: 2, Items: 1, Backend: config.Funnel, Layers: 1, Width: 2}
	u := filled(c, 0, 0, 1, thread.Swap)
	u.Tape = tape.Tape{L: []int{1, 1}}
	// The word lies in the room behind the end.
	u.M.Words = []int{0, 2, 2}[:2]
	stepsTo(t, "the slot lacks", u, copied(u))
	u.Tape.At = 2
	stepsTo(t, "the slot ahead of it does not", u, changed(u, func(u *thread.Turn) {
		u.M.Words[1] = 1
		u.Th.Phase, u.Th.Who = thread.Shut, 1
	}))
}

// P15.1: a line that is open still is shut; each other one stays, and says that the
// thread was captured.
func TestShut(t *testing.T) {
	everyTurn(thread.Shut, func(what string, u thread.Turn) {
		u = lined(u, u.T, ours(u))
		stepsTo(t, what, u, changed(u, func(u *thread.Turn) {
			lined(*u, u.T, 0)
			u.Th.Phase = thread.Capture
		}))
		for _, w := range words() {
			if w != ours(u) {
				goesTo(t, fmt.Sprint(what, ", the line is ", w), lined(u, u.T, w), thread.Wait)
			}
		}
	})
}

// P15.1: the line of the thread that was met is shut, if that is open at the same
// item and layer; each other one stays, and the thread opens again. Its own line is
// not looked at.
func TestCapture(t *testing.T) {
	everyTurn(thread.Capture, func(what string, u thread.Turn) {
		for who := range u.C.Threads {
			for _, mine := range []int{0, ours(u), code.Told()} {
				u = lined(u, u.T, mine)
				u.Th.Who = who
				u = lined(u, who, ours(u))
				stepsTo(t, fmt.Sprint(what, ", who is ", who), u, changed(u, func(u *thread.Turn) {
					lined(*u, who, 0)
					u.Th.Phase = thread.Absorb
				}))
				for _, w := range []int{0, code.Told(), open(0, 1), open(1, 1), open(0, 2), open(3, 3), code.First(who), -1, 7} {
					if w != ours(u) {
						goesTo(t, fmt.Sprint(what, ", the line of ", who, " is ", w), lined(u, who, w), thread.Reopen)
					}
				}
			}
		}
	})
	for _, w := range words() {
		u := lined(filled(funnel(), 6, 2, 3, thread.Capture), 9, w)
		u.Th.Who = 9
		if w != 292 {
			goesTo(t, fmt.Sprint("the line is ", w), u, thread.Reopen)
		}
	}
}

// P15.1: of a thread that there is not there is no line: nothing is done.
func TestCaptureOfNobody(t *testing.T) {
	for _, c := range append(configs(), without()) {
		for _, who := range []int{least, -1 << 32, -2, -1, c.Threads, c.Threads + 1, 16, 1 << 32, greatest} {
			u := filled(c, 0, 0, 1, thread.Capture)
			for i := range u.M.Words {
				// Whoever looks at another line captures.
				u.M.Words[i] = ours(u)
			}
			u.Th.Who = who
			stepsTo(t, fmt.Sprintf("%+v: thread %d", c, who), u, copied(u))
		}
	}
}

// P15.1: what is in the box of Who is taken, be it nothing, as of one kid more; no
// line is looked at, and no box changes.
func TestAbsorb(t *testing.T) {
	everyTurn(thread.Absorb, func(what string, u thread.Turn) {
		for who := range u.C.Threads {
			for _, b := range [][]batch.Entry{nil, {}, entries(who), entries(who, 9, 12, who), {{}}} {
				u.M.Boxes[who], u.Th.Who = b, who
				stepsTo(t, fmt.Sprint(what, ", box ", who, " has ", b), u, changed(u, func(u *thread.Turn) {
					u.Th.Kids = []thread.Kid{{Thread: 210, Ahead: 211}, {Thread: 212, Ahead: 213}, {Thread: who, Ahead: 2}}
					u.Th.Batch = append(u.Th.Batch, b...)
					u.Th.Phase = thread.Try
				}))
			}
		}
	})
}

// P15.1: it does so with no kids and with no entries yet, told by hand.
func TestAbsorbEdges(t *testing.T) {
	for _, x := range []struct {
		own, box, want []int
		kid            thread.Kid
	}{
		{nil, nil, nil, thread.Kid{Thread: 2}},
		{nil, []int{2}, []int{2}, thread.Kid{Thread: 2}},
		{[]int{0}, nil, []int{0}, thread.Kid{Thread: 2, Ahead: 1}},
		{[]int{0}, []int{2}, []int{0, 2}, thread.Kid{Thread: 2, Ahead: 1}},
		{[]int{0, 7, 3}, []int{2, 3, 9}, []int{0, 7, 3, 2, 3, 9}, thread.Kid{Thread: 2, Ahead: 3}},
	} {
		u := filled(funnel(), 0, 0, 1, thread.Absorb)
		u.M.Boxes[2], u.Th.Batch, u.Th.Kids, u.Th.Who = entries(x.box...), entries(x.own...), nil, 2
		stepsTo(t, fmt.Sprintf("%+v", x), u, changed(u, func(u *thread.Turn) {
			u.Th.Batch, u.Th.Kids, u.Th.Phase = entries(x.want...), []thread.Kid{x.kid}, thread.Try
		}))
	}
}

// P15.1: of a box that there is not nothing is taken.
func TestAbsorbOfNoBox(t *testing.T) {
	for _, c := range append(configs(), without()) {
		u := filled(c, 0, 0, 1, thread.Absorb)
		for _, who := range []int{least, -1 << 32, -2, -1, c.Threads, c.Threads + 1, 16, 1 << 32, greatest} {
			u.Th.Who = who
			stepsTo(t, fmt.Sprint("box ", who), u, copied(u))
		}
	}
}

// R4: who absorbs writes nothing into the room behind the lists that it was handed,
// and shares nothing with the box; who shows shares nothing with it either.
func TestBatchesHaveTheirOwnMemory(t *testing.T) {
	batches, kids := make([]batch.Entry, 9), make([]thread.Kid, 9)
	u := filled(funnel(), 1, 0, 1, thread.Absorb)
	u.Th.Batch, u.Th.Kids, u.Th.Who = batches[:1], kids[:1], 3
	got, _ := Step(u)
	if len(got.Th.Batch) != 2 || got.Th.Batch[1] != entry(3) || !reflect.DeepEqual(batches, make([]batch.Entry, 9)) || !reflect.DeepEqual(kids, make([]thread.Kid, 9)) {
		t.Errorf("%+v; %v, %v", got.Th, batches, kids)
	}
	u.M.Boxes[3][0].Thread = 99
	if got.Th.Batch[1] != entry(3) {
		t.Errorf("the box and the batch are one: %v", got.Th.Batch)
	}
	u.Th.Phase, u.Th.Batch = thread.Show, entries(1)
	got, _ = Step(u)
	u.Th.Batch[0].Thread = 99
	if got.M.Boxes[1][0] != entry(1) {
		t.Errorf("the batch and the box are one: %v", got.M.Boxes[1])
	}
}

// P15.1: a line that is not open any more says that the thread was captured,
// however many looks are left, late or not.
func TestSpinCaptured(t *testing.T) {
	everyTurn(thread.Spin, func(what string, u thread.Turn) {
		for _, left := range []int{least, -1, 0, 1, 2, greatest} {
			u.Th.Left = left
			for _, w := range words() {
				if w != ours(u) {
					goesTo(t, fmt.Sprint(what, ", the line is ", w), lined(u, u.T, w), thread.Wait)
				}
			}
		}
	})
}

// P15.1: while the line is open, a thread looks as often as it may, if it is not
// late; the line stays open when it ceases.
func TestSpinOpen(t *testing.T) {
	everyTurn(thread.Spin, func(what string, u thread.Turn) {
		u = lined(u, u.T, ours(u))
		for _, left := range []int{least, -2, -1, 0, 1, 2, 3, 20, 21, greatest} {
			u.Th.Left = left
			if left < 1 || late(u) {
				goesTo(t, fmt.Sprint(what, ", left are ", left), u, thread.Leave)
				continue
			}
			stepsTo(t, fmt.Sprint(what, ", left are ", left), u, changed(u, func(u *thread.Turn) { u.Th.Left-- }))
		}
	})
}

// P15.1: how many looks are left, and until when, each told by hand.
func TestSpinEdges(t *testing.T) {
	for _, x := range []struct{ left, until, now, wantLeft, phase int }{
		{2, 0, 0, 1, thread.Spin}, {1, 0, 0, 0, thread.Spin}, {0, 0, 0, 0, thread.Leave}, {-1, 0, 0, -1, thread.Leave},
		{2, 5, 4, 1, thread.Spin}, {1, 5, 4, 0, thread.Spin}, {0, 5, 4, 0, thread.Leave},
		{2, 5, 5, 2, thread.Leave}, {1, 5, 5, 1, thread.Leave}, {0, 5, 5, 0, thread.Leave},
		{2, 5, 6, 2, thread.Leave}, {20, 5, greatest, 20, thread.Leave},
		{2, 0, greatest, 1, thread.Spin}, {2, -5, 5, 1, thread.Spin}, {2, 1, 0, 1, thread.Spin}, {2, 1, 1, 2, thread.Leave},
		{least, 0, 0, least, thread.Leave}, {greatest, 0, 0, greatest - 1, thread.Spin},
	} {
		u := filled(funnel(), 6, 2, 3, thread.Spin)
		u.Th.Left, u.Th.Until, u.Now = x.left, x.until, x.now
		u = lined(u, 6, 292)
		stepsTo(t, fmt.Sprintf("%+v", x), u, changed(u, func(u *thread.Turn) { u.Th.Left, u.Th.Phase = x.wantLeft, x.phase }))
	}
}

// P15.1: a line that is open still is shut, and the thread goes on, with half its
// width; each other one stays, and so does the width.
func TestLeave(t *testing.T) {
	everyTurn(thread.Leave, func(what string, u thread.Turn) {
		for width, half := range map[int]int{1: 1, 2: 1, 3: 1, 4: 2, 5: 2, 6: 3, 7: 3, 8: 4, 9: 4, 0: 1, -1: 1, -8: 1, least: 1, greatest: greatest / 2} {
			u.Th.Width = width
			u = lined(u, u.T, ours(u))
			stepsTo(t, fmt.Sprint(what, ", width ", width), u, changed(u, func(u *thread.Turn) {
				lined(*u, u.T, 0)
				u.Th.Width = half
				onward(u)
			}))
			for _, w := range []int{0, code.Told(), ours(u) + 8, ours(u) - 8, ours(u) + 128, 7} {
				goesTo(t, fmt.Sprint(what, ", the line is ", w), lined(u, u.T, w), thread.Wait)
			}
		}
	})
	for _, w := range words() {
		if w != 292 {
			u := lined(filled(funnel(), 6, 2, 3, thread.Leave), 6, w)
			goesTo(t, fmt.Sprint("the line is ", w), u, thread.Wait)
		}
	}
}

// P15.1: where a thread goes that leaves a layer, told by hand.
func TestLeaveEdges(t *testing.T) {
	for _, x := range []struct{ layers, layer, until, now, wantLayer, phase int }{
		{3, 1, 0, 0, 2, thread.Show}, {3, 2, 0, 0, 3, thread.Show}, {3, 3, 0, 0, 3, thread.Load},
		{2, 1, 0, 9, 2, thread.Show}, {2, 2, 0, 9, 2, thread.Load}, {1, 1, 0, 0, 1, thread.Load}, {0, 1, 0, 0, 1, thread.Load},
		{3, 1, 5, 4, 2, thread.Show}, {3, 1, 5, 5, 1, thread.Load}, {3, 1, 5, 6, 1, thread.Load}, {3, 3, 5, 5, 3, thread.Load},
		{2, 3, 0, 0, 3, thread.Load}, {3, 1, -5, 5, 2, thread.Show},
	} {
		c := config.Config{Threads: 2, Items: 2, Backend: config.Funnel, Layers: x.layers, Width: 2, Spin: 2}
		u := filled(c, 1, 1, x.layer, thread.Leave)
		u.Th.Until, u.Now = x.until, x.now
		u = lined(u, 1, 8*(16+x.layer+1)+4)
		stepsTo(t, fmt.Sprintf("%+v", x), u, changed(u, func(u *thread.Turn) {
			lined(*u, 1, 0)
			u.Th.Width, u.Th.Layer, u.Th.Phase = 1, x.wantLayer, x.phase
		}))
	}
}

// P15.1: an open word is of one item and layer: that of each other one is not it.
func TestOpenForAnother(t *testing.T) {
	for at := range 12 {
		for of := range 12 {
			for _, x := range []struct{ phase, yes, no int }{
				{thread.Shut, thread.Capture, thread.Wait}, {thread.Capture, thread.Absorb, thread.Reopen},
				{thread.Spin, thread.Spin, thread.Wait}, {thread.Leave, thread.Load, thread.Wait},
			} {
				u := filled(funnel(), 4, at/3, at%3+1, x.phase)
				u.Th.Who, u.Th.Until = 5, 1
				if x.phase == thread.Spin {
					u.Th.Until = 0
				}
				u = lined(lined(u, 4, open(of/3, of%3+1)), 5, open(of/3, of%3+1))
				got, _ := Step(u)
				want := x.no
				if at == of {
					want = x.yes
				}
				if got.Th.Phase != want {
					t.Errorf("phase %d of %d, the line is that of %d: phase %d", x.phase, at, of, got.Th.Phase)
				}
			}
		}
	}
}

// P15.1: with no words, or with no boxes, just those steps do nothing that need
// what lacks; with neither none does anything.
func TestHalfAMemory(t *testing.T) {
	for _, phase := range phases() {
		everyTurn(phase, func(what string, u thread.Turn) {
			if phase == thread.Swap && u.Th.Layer > u.C.Layers {
				return
			}
			boxes := slices.Contains(atBoxes(), phase)
			u.Th.Left, u.Th.Until = 9, 0
			whole, _ := Step(lined(u, u.T, ours(u)))
			if reflect.DeepEqual(whole, u) {
				t.Fatalf("%s, phase %d: nothing is done", what, phase)
			}
			for _, x := range []struct {
				m    wmem.Mem
				idle bool
			}{
				{wmem.Mem{Boxes: u.M.Boxes}, !boxes}, {wmem.Mem{Words: []int{}, Boxes: u.M.Boxes}, !boxes},
				{wmem.Mem{Words: u.M.Words}, boxes}, {wmem.Mem{Words: u.M.Words, Boxes: [][]batch.Entry{}}, boxes},
				{wmem.Mem{}, true},
			} {
				v := copied(u)
				v.M = x.m
				got, taken := Step(v)
				if !taken || x.idle && !reflect.DeepEqual(got, v) || !x.idle && got.Th.Phase != whole.Th.Phase {
					t.Errorf("%s, phase %d, %d words and %d boxes: %t, %+v", what, phase, len(x.m.Words), len(x.m.Boxes), taken, got)
				}
			}
		})
	}
}

// P15.1: of a memory that is too small the line, or the box, may be the only one
// that lacks; it may lie in the room behind the end.
func TestMemoryThatIsTooSmall(t *testing.T) {
	c := config.Config{Threads: 2, Items: 1, Backend: config.Funnel, Layers: 1, Width: 1}
	for _, phase := range phases() {
		if phase == thread.Swap {
			continue
		}
		u := lined(filled(c, 1, 0, 1, phase), 1, open(0, 1))
		u.Th.Who = 1
		// The line of thread 1 is word 4, its box is box 1.
		u.M.Words = u.M.Words[:5]
		got, taken := Step(u)
		if !taken || reflect.DeepEqual(got, u) {
			t.Errorf("phase %d, the line is the last word: %t, %+v", phase, taken, got)
		}
		u.M.Words, u.M.Boxes = u.M.Words[:4], u.M.Boxes[:1]
		stepsTo(t, fmt.Sprint("phase ", phase, ", line and box lack"), u, copied(u))
	}
}

// R1: at any numbers no call panics.
func TestAnyNumbers(t *testing.T) {
	numbers := []int{least, -1 << 32, -1, 0, 1, 3, 1 << 32, greatest}
	for _, a := range numbers {
		for _, b := range numbers {
			for phase := -1; phase <= 27; phase++ {
				u := filled(funnel(), a, b, a, phase)
				u.Th.Who, u.Th.Left, u.Th.Width, u.Th.Until, u.Now, u.Tape.At = a, b, b, a, b, a
				for range 2 {
					Step(u)
					u.C.Threads, u.C.Items, u.C.Layers, u.C.Width, u.C.Depth, u.C.Spin = b, a, b, a, b, a
				}
				Step(thread.Turn{T: a, Th: thread.Thread{Phase: phase, Layer: b, Who: a, Width: b, Left: a}})
			}
		}
	}
}
