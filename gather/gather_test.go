package gather

import (
	"fmt"
	"math"
	"reflect"
	"slices"
	"strconv"
	"testing"

	"millstream/api"
	"millstream/arena"
	"millstream/batch"
	"millstream/climb"
	"millstream/code"
	"millstream/config"
	"millstream/oper"
	"millstream/shape"
	"millstream/tape"
	"millstream/thread"
	"millstream/wmem"
)

const (
	least    = math.MinInt
	greatest = math.MaxInt
)

// configs answers configs with a tree of each depth, of each backend, with
// deadlines and without, and the greatest one that may be.
func configs() []config.Config {
	return []config.Config{
		{Threads: 4, Items: 2, Backend: config.Tree, Depth: 1, Width: 1},
		{Threads: 5, Items: 2, Backend: config.Tree, Depth: 2, Width: 1, Wait: 9},
		{Threads: 8, Items: 3, Backend: config.Tree, Depth: 3, Width: 1, Bounded: true, Lo: -10, Hi: 40, Init: 3},
		{Threads: 1, Items: 1, Backend: config.Tree, Depth: 4, Width: 8, Init: 5},
		{Threads: 5, Items: 3, Backend: config.Funnel, Depth: 2, Layers: 2, Width: 3, Spin: 4},
		{Threads: 16, Items: 4, Backend: config.Cell, Depth: 4, Layers: 3, Width: 8, Spin: 20, Wait: 1000},
	}
}

// tree is a config of a tree of that depth, for as many threads and items as may
// be.
func tree(depth int) config.Config {
	return config.Config{Threads: api.MaxThreads, Items: api.MaxItems, Backend: config.Tree, Depth: depth, Width: 1}
}

// without answers a config without a tree.
func without() config.Config {
	return config.Config{Threads: 3, Items: 2, Backend: config.Cell, Width: 1}
}

// entry answers an entry of that thread, with an op that no other thread has.
func entry(who int) batch.Entry {
	return batch.Entry{Thread: who, Op: oper.Op{Tag: oper.Add, V: 500 + who}}
}

// entries answers entries of these threads, in new memory.
func entries(who ...int) []batch.Entry {
	b := []batch.Entry{}
	for _, t := range who {
		b = append(b, entry(t))
	}
	return b
}

// filled answers a turn of thread t all of whose fields are set, each word and
// number to one that no other has, its lists new each time.
func filled(c config.Config, t, item, phase int, held ...int) thread.Turn {
	m := arena.Build(c)
	for i := range m.Words {
		// None of these is a word that says anything.
		m.Words[i] = 7 + 8*(1000+i)
	}
	for i := range m.Boxes {
		m.Boxes[i] = entries(i)
	}
	return thread.Turn{
		C: c, T: t, Now: 201, M: m,
		Th: thread.Thread{
			Phase: phase, Item: item, Op: oper.Op{Tag: 202, V: 203},
			Batch: []batch.Entry{{Thread: 204, Op: oper.Op{Tag: 205, V: 206}}, {Thread: 207, Op: oper.Op{Tag: 208, V: 209}}},
			Kids:  []thread.Kid{{Thread: 210, Ahead: 211}, {Thread: 212, Ahead: 213}},
			Held:  slices.Clone(held),
			Stop:  1, Node: 220, At: 0, Layer: 222, Left: 223, Width: 224, Who: 0, X: 226, Y: 227, Until: 228,
		},
		Tape: tape.Tape{L: []int{231, 232}, At: 1},
		Log:  []thread.Mark{{Thread: 241, Item: 242, Op: oper.Op{Tag: 243, V: 244}, Prior: 245, Step: 246}},
	}
}

// set makes w the word of that node of u's item.
func set(u thread.Turn, n, w int) thread.Turn {
	u.M.Words[arena.Node(u.C, u.Th.Item, n)] = w
	return u
}

// with makes w the word of the node that u's thread holds at At.
func with(u thread.Turn, w int) thread.Turn { return set(u, u.Th.Held[u.Th.At], w) }

// copied answers a turn that shares no memory with u.
func copied(u thread.Turn) thread.Turn {
	u.M.Words = slices.Clone(u.M.Words)
	u.M.Boxes = slices.Clone(u.M.Boxes)
	for i, b := range u.M.Boxes {
		u.M.Boxes[i] = slices.Clone(b)
	}
	u.Th.Batch = slices.Clone(u.Th.Batch)
	u.Th.Kids = slices.Clone(u.Th.Kids)
	u.Th.Held = slices.Clone(u.Th.Held)
	u.Tape.L = slices.Clone(u.Tape.L)
	u.Log = slices.Clone(u.Log)
	return u
}

// changed answers a copy of u that the change was done to.
func changed(u thread.Turn, change func(u *thread.Turn)) thread.Turn {
	u = copied(u)
	change(&u)
	return u
}

// passed does to u what a thread that is through with a node does, as the document
// tells it: it goes on to the next node, to the one it joined, or to the cell.
func passed(u *thread.Turn) {
	u.Th.At++
	switch {
	case u.Th.At < len(u.Th.Held):
		u.Th.Phase = thread.Gather
	case u.Th.Stop > 0:
		u.Th.Phase = thread.Publish
	default:
		u.Th.Phase = thread.Load
	}
}

// is holds a turn against the wanted one. Nil lists and lists without elements
// are alike (R6), and fmt tells them alike.
func is(t *testing.T, what string, got, want thread.Turn) {
	t.Helper()
	// To tell a memory as text takes long.
	if !reflect.DeepEqual(got, want) && fmt.Sprintf("%+v", got) != fmt.Sprintf("%+v", want) {
		t.Errorf("%s:\n got %+v\nwant %+v", what, got, want)
	}
}

// stepsTo holds a step of one of this layer's phases against the wanted turn, and
// that it leaves what it was handed.
func stepsTo(t *testing.T, what string, u, want thread.Turn) thread.Turn {
	t.Helper()
	return stepped(t, what, u, want, true)
}

func stepped(t *testing.T, what string, u, want thread.Turn, wantIs bool) thread.Turn {
	t.Helper()
	was := copied(u)
	got, ours := Step(u)
	if ours != wantIs {
		t.Errorf("%s: Step tells %t", what, ours)
	}
	is(t, what, got, want)
	if !reflect.DeepEqual(u, was) {
		t.Errorf("%s: what was handed in changed: %+v, was %+v", what, u, was)
	}
	if again, _ := Step(u); !reflect.DeepEqual(again, got) {
		t.Errorf("%s: the same again is %+v, was %+v", what, again, got)
	}
	return got
}

// takes holds Take against the wanted turn, and that it leaves what it was handed.
func takes(t *testing.T, what string, u thread.Turn, who int, b []batch.Entry, want thread.Turn) thread.Turn {
	t.Helper()
	was, left := copied(u), slices.Clone(b)
	got := Take(u, who, b)
	is(t, what, got, want)
	if !reflect.DeepEqual(u, was) || !slices.Equal(b, left) {
		t.Errorf("%s: what was handed in changed: %+v, was %+v; %v, was %v", what, u, was, b, left)
	}
	if again := Take(u, who, b); !reflect.DeepEqual(again, got) {
		t.Errorf("%s: the same again is %+v, was %+v", what, again, got)
	}
	return got
}

// ours answers the phases of this layer.
func ours() []int {
	return []int{thread.Gather, thread.Close, thread.Collect, thread.Free, thread.Publish, thread.Deposit}
}

// atHeld answers the phases of this layer that look at the held node.
func atHeld() []int { return []int{thread.Gather, thread.Close, thread.Free} }

// The configs of the tests are ones of which something is promised.
func TestConfigsMayBe(t *testing.T) {
	all := append(configs(), without())
	for depth := range api.MaxDepth + 1 {
		all = append(all, tree(depth))
	}
	for _, c := range all {
		if wrong := config.Check(c); wrong != api.OK {
			t.Errorf("%+v: %d", c, wrong)
		}
	}
}

// P14.2: the document's examples: a node that is First of T, in the phase Gather;
// and two threads at one leaf, of which the second one joins the first one: the
// first one's batch is its own op, and then the second one's.
func TestExamples(t *testing.T) {
	c := config.Config{Threads: 2, Items: 1, Backend: config.Tree, Depth: 1, Width: 1}
	m := arena.Build(c)
	m.Words[1] = 9
	u, is := Step(thread.Turn{C: c, M: m, Th: thread.Thread{Phase: thread.Gather, Held: []int{1}}})
	if !is || u.Th.Phase != thread.Close {
		t.Errorf("First of T: %t, %+v", is, u.Th)
	}
	w := muster(c, 0, 0)
	for _, x := range []struct{ who, phase, word int }{
		{0, thread.Take, 0}, {0, thread.Gather, 9},
		{1, thread.Join, 9}, {1, thread.Publish, 18},
		{0, thread.Gather, 18},
		{1, thread.Deposit, 18}, {1, thread.Wait, 19},
		{0, thread.Collect, 19}, {0, thread.Free, 19}, {0, thread.Load, 0},
	} {
		w.pick(x.who)
		if w.turns[x.who].Th.Phase != x.phase || w.m.Words[1] != x.word {
			t.Fatalf("%+v: %+v, %v", x, w.turns[x.who].Th, w.m.Words)
		}
	}
	th := w.turns[0].Th
	if !slices.Equal(th.Batch, entries(0, 1)) || !slices.Equal(th.Kids, []thread.Kid{{Thread: 1, Ahead: 1}}) || th.Who != 1 || th.At != 1 {
		t.Errorf("the first one: %+v", th)
	}
}

// P14.1: a kid more, behind those that there are, whose Ahead is how many entries
// the batch had; the batch is what it was, and what is taken. All else stays. Told
// by hand.
func TestTakeEdges(t *testing.T) {
	none, some := []thread.Kid(nil), []thread.Kid{{Thread: 5, Ahead: 1}, {Thread: 6, Ahead: 9}}
	for _, x := range []struct {
		kids, wantKids  []thread.Kid
		own, b, want    []int
		who, thread, at int
	}{
		{none, []thread.Kid{{Thread: 1, Ahead: 1}}, []int{0}, []int{1}, []int{0, 1}, 1, 0, 0},
		{none, []thread.Kid{{Thread: 1, Ahead: 1}}, []int{0}, nil, []int{0}, 1, 0, 0},
		{none, []thread.Kid{{Thread: 1, Ahead: 0}}, nil, []int{1}, []int{1}, 1, 0, 0},
		{none, []thread.Kid{{Thread: 1, Ahead: 0}}, nil, nil, nil, 1, 0, 0},
		{none, []thread.Kid{{Thread: 1, Ahead: 0}}, []int{}, []int{}, []int{}, 1, 0, 9},
		{some, []thread.Kid{{Thread: 5, Ahead: 1}, {Thread: 6, Ahead: 9}, {Thread: 2, Ahead: 3}}, []int{0, 5, 6}, []int{2, 7, 8}, []int{0, 5, 6, 2, 7, 8}, 2, 0, 1},
		{some, []thread.Kid{{Thread: 5, Ahead: 1}, {Thread: 6, Ahead: 9}, {Thread: 2, Ahead: 0}}, nil, []int{2}, []int{2}, 2, 0, -1},
		{some, []thread.Kid{{Thread: 5, Ahead: 1}, {Thread: 6, Ahead: 9}, {Thread: 6, Ahead: 2}}, []int{0, 0}, nil, []int{0, 0}, 6, 0, 2},
		{some, []thread.Kid{{Thread: 5, Ahead: 1}, {Thread: 6, Ahead: 9}, {Thread: 3, Ahead: 1}}, []int{3}, []int{3}, []int{3, 3}, 3, 3, 0},
		{none, []thread.Kid{{Thread: -1, Ahead: 1}}, []int{3}, []int{9, 9}, []int{3, 9, 9}, -1, 3, 0},
		{none, []thread.Kid{{Thread: 16, Ahead: 1}}, []int{3}, []int{9, 8}, []int{3, 9, 8}, 16, 3, 0},
		{none, []thread.Kid{{Thread: least, Ahead: 1}}, []int{3}, []int{-9}, []int{3, -9}, least, 3, 0},
		{none, []thread.Kid{{Thread: greatest, Ahead: 1}}, []int{3}, []int{greatest}, []int{3, greatest}, greatest, 3, 0},
		{none, []thread.Kid{{Thread: 1 << 32, Ahead: 2}}, []int{3, 2}, []int{1 << 32}, []int{3, 2, 1 << 32}, 1 << 32, 3, 0},
	} {
		u := filled(tree(2), x.thread, 0, thread.Collect, 2, 1)
		u.Th.Kids, u.Th.Batch, u.Th.At = x.kids, entries(x.own...), x.at
		takes(t, fmt.Sprintf("%+v", x), u, x.who, entries(x.b...), changed(u, func(u *thread.Turn) {
			u.Th.Kids, u.Th.Batch = x.wantKids, entries(x.want...)
		}))
	}
}

// P14.1: the entries are taken as they are, whatever their ops and threads, and
// however many there are; nothing else of the turn is looked at.
func TestTake(t *testing.T) {
	long := make([]batch.Entry, 100)
	for i := range long {
		long[i] = batch.Entry{Thread: i % 7, Op: oper.Op{Tag: i - 40, V: -i * i}}
	}
	lists := [][]batch.Entry{nil, {}, {{}}, {{Thread: -1, Op: oper.Op{Tag: -1, V: least}}, {Thread: 99, Op: oper.Op{Tag: 99, V: greatest}}}, long}
	for _, c := range configs() {
		for _, own := range lists {
			for _, b := range lists {
				for i, phase := range append(ours(), -1, thread.Idle, thread.Climb, thread.Capture, thread.Absorb, 99) {
					who := i % c.Threads
					u := filled(c, c.Threads-1, 0, phase, 1)
					u.Th.Batch, u.Done, u.Th.Who = slices.Clone(own), i%2 == 0, 3
					want := changed(u, func(u *thread.Turn) {
						u.Th.Kids = []thread.Kid{{Thread: 210, Ahead: 211}, {Thread: 212, Ahead: 213}, {Thread: who, Ahead: len(own)}}
						u.Th.Batch = append(u.Th.Batch, b...)
					})
					takes(t, fmt.Sprint(len(own), " and ", len(b), " entries, phase ", phase), u, who, b, want)
				}
			}
		}
	}
}

// P14.1: the words and boxes are not looked at: there may be none.
func TestTakeWithoutMemory(t *testing.T) {
	u := filled(tree(2), 3, 1, thread.Collect, 2)
	u.M, u.Th.Held = wmem.Mem{}, nil
	takes(t, "no memory", u, 4, entries(4), changed(u, func(u *thread.Turn) {
		u.Th.Kids = append(u.Th.Kids, thread.Kid{Thread: 4, Ahead: 2})
		u.Th.Batch = append(u.Th.Batch, entry(4))
	}))
}

// P14.1: kids are taken one behind the other: each one's Ahead is what those ahead
// of it left.
func TestTakeManyTimes(t *testing.T) {
	u := thread.Turn{C: tree(4), Th: thread.Thread{Batch: entries(0)}}
	want := thread.Thread{Batch: entries(0)}
	for who := 1; who < api.MaxThreads; who++ {
		b := make([]batch.Entry, who%4)
		for i := range b {
			b[i] = batch.Entry{Thread: who, Op: oper.Op{Tag: oper.Sub, V: i}}
		}
		u = Take(u, who, b)
		want.Kids = append(want.Kids, thread.Kid{Thread: who, Ahead: len(want.Batch)})
		want.Batch = append(want.Batch, b...)
		if !thread.Same(u.Th, want) {
			t.Fatalf("behind %d: %+v, want %+v", who, u.Th, want)
		}
	}
}

// P14.1, R4: two turns that go on from lists with room behind them do not write
// over one another's kids and entries, nor into that room; nor do they share what
// was taken with who left it.
func TestTakeHasItsOwnMemory(t *testing.T) {
	for own := range 3 {
		for kids := range 3 {
			ownRoom, kidRoom := make([]batch.Entry, 20), make([]thread.Kid, 20)
			left := make([]batch.Entry, 20)
			u := thread.Turn{C: tree(1), Th: thread.Thread{Batch: ownRoom[:own], Kids: kidRoom[:kids]}}
			left[0], left[1] = entry(3), entry(4)
			first := Take(u, 3, left[:2])
			was := copied(first)
			second := Take(u, 5, entries(5, 6, 7))
			is(t, "the first one's turn behind the second one's", first, was)
			if second.Th.Batch[own] != entry(5) || second.Th.Kids[kids] != (thread.Kid{Thread: 5, Ahead: own}) {
				t.Errorf("the second one: %+v", second.Th)
			}
			if !reflect.DeepEqual(ownRoom, make([]batch.Entry, 20)) || !reflect.DeepEqual(kidRoom, make([]thread.Kid, 20)) || !reflect.DeepEqual(left[2:], make([]batch.Entry, 18)) {
				t.Errorf("written into the room: %v, %v, %v", ownRoom, kidRoom, left)
			}
			left[0], left[1] = entry(8), entry(9)
			is(t, "the first one's turn behind what it took changed", first, was)
		}
	}
}

// P14.2: the phases of this layer are six; of all others the turn is as it is,
// whatever its node says.
func TestPhases(t *testing.T) {
	others := []int{least, -99, -2, -1, 27, 28, 99, greatest, thread.Gather + 1<<32, thread.Free - 1<<32, -thread.Close, -thread.Gather}
	for phase := thread.Idle; phase <= thread.Leave; phase++ {
		if slices.Contains(ours(), phase) {
			if _, got := Step(filled(tree(2), 1, 0, phase, 2)); !got {
				t.Errorf("phase %d is not taken", phase)
			}
			continue
		}
		others = append(others, phase)
	}
	if len(others) != 12+27-6 {
		t.Errorf("%d phases", len(others))
	}
	for _, c := range configs() {
		for _, phase := range others {
			for _, w := range []int{0, code.First(0), code.Deposited(0), 7} {
				for _, node := range []int{1, arena.Nodes(c)} {
					for _, done := range []bool{false, true} {
						u := with(filled(c, 0, 0, phase, node), w)
						u.Done, u.Th.X = done, w
						stepped(t, fmt.Sprint("phase ", phase), u, copied(u), false)
					}
				}
			}
		}
	}
}

// nodes answers the nodes of that config's tree, from the last one to the top.
func nodes(c config.Config) []int {
	var l []int
	for n := arena.Nodes(c); n >= 1; n-- {
		l = append(l, n)
	}
	return l
}

// everyTurn goes through turns in that phase of the first and of the last item of
// each config, with several lists of nodes held, at each of them, that joined a
// node and did not, late and not, and that are done and not; every other one is of
// the first thread, and the rest of the last one.
func everyTurn(phase int, each func(what string, u thread.Turn)) {
	for _, c := range configs() {
		who, late := 0, 0
		for _, item := range []int{0, c.Items - 1} {
			for _, held := range [][]int{{1}, nodes(c), shape.Path(c.Depth, c.Threads-1), {1, arena.Nodes(c), 1}} {
				for at := range held {
					for _, stop := range []int{-1, 0, 1, arena.Nodes(c)} {
						u := filled(c, who, item, phase, held...)
						u.Th.At, u.Th.Stop, u.Done = at, stop, stop == 0
						u.Th.Until, u.Now = []int{0, 9, 9, 9, -1}[late], []int{9, 8, 9, greatest, least}[late]
						each(fmt.Sprintf("%+v: thread %d, item %d, at %d of %v, stop %d", c, who, item, at, held, stop), u)
						who, late = c.Threads-1-who, (late+1)%5
					}
				}
			}
		}
	}
}

// kinds answers words of each kind, and words that say nothing.
func kinds() []int {
	l := []int{
		0, code.Told(), 7, 6, 8, 1, 2, 3, 4, 13, -1, -8, least, greatest, 1 << 32, 1<<32 + 9, -7, -5,
		code.First(api.MaxThreads), code.Joined(api.MaxThreads), code.Deposited(api.MaxThreads),
		code.Open(0, 1), code.Open(api.MaxItems-1, api.MaxLayers), code.Open(0, 0),
	}
	for t := range api.MaxThreads {
		l = append(l, code.First(t), code.Joined(t), code.Deposited(t))
	}
	return l
}

// P14.2: at a node that is First of T still, a thread goes on to close it; nothing
// else changes.
func TestGatherFirst(t *testing.T) {
	everyTurn(thread.Gather, func(what string, u thread.Turn) {
		u = with(u, 8*(u.T+1)+1)
		stepsTo(t, what, u, changed(u, func(u *thread.Turn) { u.Th.Phase = thread.Close }))
	})
}

// P14.2: at a node at which a thread left its batch, be it one that there is not in
// this config, or T itself, a thread goes on to collect from it.
func TestGatherDeposited(t *testing.T) {
	everyTurn(thread.Gather, func(what string, u thread.Turn) {
		for _, kid := range []int{0, 1, u.T, api.MaxThreads - 1} {
			u = with(u, 8*(kid+1)+3)
			u.Th.Who = (kid + 1) % api.MaxThreads
			stepsTo(t, what, u, changed(u, func(u *thread.Turn) { u.Th.Who, u.Th.Phase = kid, thread.Collect }))
		}
	})
}

// P14.2: each word that is neither of these two is waited at, late or not.
func TestGatherWaits(t *testing.T) {
	everyTurn(thread.Gather, func(what string, u thread.Turn) {
		for _, w := range []int{0, code.Joined(0), code.Joined(u.T), code.First(u.T + 1), code.Told(), code.Open(0, 1), 7} {
			u = with(u, w)
			stepsTo(t, fmt.Sprint(what, ", the node is ", w), u, copied(u))
		}
	})
}

// P14.2: each word, told by hand is what a thread does.
func TestGatherEdges(t *testing.T) {
	for _, who := range []int{0, 7, api.MaxThreads - 1} {
		for _, w := range kinds() {
			u := with(filled(tree(3), who, 1, thread.Gather, 6, 3, 1), w)
			u.Th.Who = 99
			want := copied(u)
			switch {
			case w == 8*(who+1)+1:
				want.Th.Phase = thread.Close
			case w >= 11 && w <= 131 && w%8 == 3:
				want.Th.Phase, want.Th.Who = thread.Collect, w/8-1
			}
			stepsTo(t, fmt.Sprint("the node is ", w), u, want)
		}
	}
}

// P14.2: a node that is First of T still becomes free; the thread goes on to the
// next node that it holds, or down, if there is none.
func TestCloseFirst(t *testing.T) {
	everyTurn(thread.Close, func(what string, u thread.Turn) {
		u = with(u, 8*(u.T+1)+1)
		stepsTo(t, what, u, changed(u, func(u *thread.Turn) {
			with(*u, 0)
			passed(u)
		}))
	})
}

// P14.2: a node that is not First of T any more stays as it is; the thread looks
// again, late or not.
func TestCloseFails(t *testing.T) {
	everyTurn(thread.Close, func(what string, u thread.Turn) {
		for _, w := range []int{0, code.Joined(0), code.Joined(u.T), code.Deposited(u.T), code.First(u.T + 1), code.Told(), 7} {
			u = with(u, w)
			stepsTo(t, fmt.Sprint(what, ", the node is ", w), u, changed(u, func(u *thread.Turn) { u.Th.Phase = thread.Gather }))
		}
	})
	for _, who := range []int{0, 7, api.MaxThreads - 1} {
		for _, w := range kinds() {
			u := with(filled(tree(3), who, 1, thread.Close, 6, 3, 1), w)
			u.Th.X, u.Th.Who = w, who
			if w != 8*(who+1)+1 {
				stepsTo(t, fmt.Sprint("the node is ", w), u, changed(u, func(u *thread.Turn) { u.Th.Phase = thread.Gather }))
			}
		}
	}
}

// P14.2: where a thread goes from a node that it closed, or that it freed, told by
// hand.
func TestOnwardEdges(t *testing.T) {
	for _, x := range []struct {
		held           []int
		at, stop, want int
	}{
		{[]int{1}, 0, 0, thread.Load}, {[]int{1}, 0, 1, thread.Publish}, {[]int{1}, 0, -1, thread.Load},
		{[]int{2, 1}, 0, 0, thread.Gather}, {[]int{2, 1}, 0, 1, thread.Gather}, {[]int{2, 1}, 0, -1, thread.Gather},
		{[]int{2, 1}, 1, 0, thread.Load}, {[]int{2, 1}, 1, 3, thread.Publish}, {[]int{2, 1}, 1, least, thread.Load},
		{[]int{7, 3, 1}, 1, 0, thread.Gather}, {[]int{7, 3, 1}, 2, greatest, thread.Publish}, {[]int{7, 3, 1}, 2, 0, thread.Load},
		{[]int{7, 3}, 1, 1, thread.Publish}, {[]int{7, 3}, 0, 1, thread.Gather}, {[]int{7}, 0, 3, thread.Publish},
		// What it goes on to is not looked at yet.
		{[]int{7, 0}, 0, 0, thread.Gather}, {[]int{7, -1}, 0, 1, thread.Gather}, {[]int{7, 99}, 0, 0, thread.Gather},
		{[]int{7, 7}, 0, 1, thread.Gather}, {[]int{-1, 7}, 1, 1, thread.Publish}, {[]int{99, 7}, 1, 0, thread.Load},
	} {
		for _, phase := range []int{thread.Close, thread.Free} {
			u := filled(tree(3), 5, 2, phase, x.held...)
			u.Th.At, u.Th.Stop = x.at, x.stop
			u = with(u, code.First(5))
			stepsTo(t, fmt.Sprintf("phase %d, %+v", phase, x), u, changed(u, func(u *thread.Turn) {
				with(*u, 0)
				u.Th.At, u.Th.Phase = x.at+1, x.want
			}))
		}
	}
}

// P14.2: what is in the box of Who is taken, be it nothing, and be it the thread's
// own box; the node is not looked at, and no box changes.
func TestCollect(t *testing.T) {
	everyTurn(thread.Collect, func(what string, u thread.Turn) {
		for who := range u.C.Threads {
			for _, b := range [][]batch.Entry{nil, {}, entries(who), entries(who, 9, 12, who), {{}}} {
				u.M.Boxes[who], u.Th.Who = b, who
				stepsTo(t, fmt.Sprint(what, ", box ", who, " has ", b), u, changed(u, func(u *thread.Turn) {
					u.Th.Kids = []thread.Kid{{Thread: 210, Ahead: 211}, {Thread: 212, Ahead: 213}, {Thread: who, Ahead: 2}}
					u.Th.Batch = append(u.Th.Batch, b...)
					u.Th.Phase = thread.Free
				}))
			}
		}
	})
}

// P14.2: it does so with no kids and with no entries yet, told by hand.
func TestCollectEdges(t *testing.T) {
	for _, x := range []struct {
		own, box, want []int
		kid            thread.Kid
	}{
		{nil, nil, nil, thread.Kid{Thread: 2}},
		{nil, []int{2}, []int{2}, thread.Kid{Thread: 2}},
		{[]int{0}, nil, []int{0}, thread.Kid{Thread: 2, Ahead: 1}},
		{[]int{0}, []int{2}, []int{0, 2}, thread.Kid{Thread: 2, Ahead: 1}},
		{[]int{0, 7, 3}, []int{2, 3, 9}, []int{0, 7, 3, 2, 3, 9}, thread.Kid{Thread: 2, Ahead: 3}},
	} {
		u := filled(tree(3), 0, 0, thread.Collect, 4)
		u.M.Boxes[2], u.Th.Batch, u.Th.Kids, u.Th.Who = entries(x.box...), entries(x.own...), nil, 2
		stepsTo(t, fmt.Sprintf("%+v", x), u, changed(u, func(u *thread.Turn) {
			u.Th.Batch, u.Th.Kids, u.Th.Phase = entries(x.want...), []thread.Kid{x.kid}, thread.Free
		}))
	}
}

// P14.2: of a box that there is not nothing is taken.
func TestCollectOfNoBox(t *testing.T) {
	for _, c := range append(configs(), without()) {
		u := filled(c, 0, 0, thread.Collect, 1)
		for _, who := range []int{least, -1 << 32, -2, -1, c.Threads, c.Threads + 1, 16, 1 << 32, greatest} {
			u.Th.Who = who
			stepsTo(t, fmt.Sprint("box ", who), u, copied(u))
		}
	}
}

// P14.2: who collects writes nothing into the room behind the lists that it was
// handed, and shares nothing with the box.
func TestCollectHasItsOwnMemory(t *testing.T) {
	batches, kids := make([]batch.Entry, 9), make([]thread.Kid, 9)
	u := filled(tree(2), 1, 0, thread.Collect, 2)
	u.Th.Batch, u.Th.Kids, u.Th.Who = batches[:1], kids[:1], 3
	got, _ := Step(u)
	want := entries(3)[0]
	if len(got.Th.Batch) != 2 || got.Th.Batch[1] != want || !reflect.DeepEqual(batches, make([]batch.Entry, 9)) || !reflect.DeepEqual(kids, make([]thread.Kid, 9)) {
		t.Errorf("%+v; %v, %v", got.Th, batches, kids)
	}
	u.M.Boxes[3][0].Thread = 99
	if got.Th.Batch[1] != want {
		t.Errorf("the box and the batch are one: %v", got.Th.Batch)
	}
}

// P14.2: the node becomes free, whatever it was; the thread goes on to the next
// node that it holds, or down, if there is none.
func TestFree(t *testing.T) {
	everyTurn(thread.Free, func(what string, u thread.Turn) {
		for _, w := range []int{code.Deposited(0), code.Deposited(u.T), code.First(u.T), code.First(u.T + 1), code.Joined(1), 0, 7} {
			u = with(u, w)
			stepsTo(t, fmt.Sprint(what, ", the node is ", w), u, changed(u, func(u *thread.Turn) {
				with(*u, 0)
				passed(u)
			}))
		}
	})
	for _, w := range kinds() {
		u := with(filled(tree(3), 6, 1, thread.Free, 6, 3, 1), w)
		u.Th.Who = 99
		stepsTo(t, fmt.Sprint("the node is ", w), u, changed(u, func(u *thread.Turn) {
			with(*u, 0)
			u.Th.At, u.Th.Phase = 1, thread.Gather
		}))
	}
}

// P14.2: the batch is put into the thread's own box, over what was there; the node
// stays as it is yet.
func TestPublish(t *testing.T) {
	everyTurn(thread.Publish, func(what string, u thread.Turn) {
		for _, b := range [][]batch.Entry{nil, {}, entries(u.T), entries(u.T, 3, 12, 3), {{}}} {
			u.Th.Batch, u.Th.Who = b, 0
			stepsTo(t, fmt.Sprint(what, ", the batch is ", b), u, changed(u, func(u *thread.Turn) {
				u.M.Boxes[u.T] = slices.Clone(b)
				u.Th.Phase = thread.Deposit
			}))
		}
	})
	for who := range api.MaxThreads {
		u := filled(tree(4), who, 3, thread.Publish)
		stepsTo(t, fmt.Sprint("thread ", who), u, changed(u, func(u *thread.Turn) {
			u.M.Boxes[who] = []batch.Entry{{Thread: 204, Op: oper.Op{Tag: 205, V: 206}}, {Thread: 207, Op: oper.Op{Tag: 208, V: 209}}}
			u.Th.Phase = thread.Deposit
		}))
	}
}

// P14.2: of a memory that lacks the thread's box nothing is published; the box may
// lie in the room behind the end.
func TestPublishWithoutBox(t *testing.T) {
	for who := range api.MaxThreads {
		for boxes := range api.MaxThreads + 1 {
			u := filled(tree(2), who, 1, thread.Publish, 2)
			u.M.Boxes = u.M.Boxes[:boxes]
			want := copied(u)
			if who < boxes {
				want.M.Boxes[who] = slices.Clone(u.Th.Batch)
				want.Th.Phase = thread.Deposit
			}
			stepsTo(t, fmt.Sprint("box ", who, " of ", boxes), u, want)
		}
	}
}

// P14.2: the thread's word stands at the node at which it stopped, whatever it was;
// the thread waits, and its batch stays in its box.
func TestDeposit(t *testing.T) {
	count := 0
	everyTurn(thread.Deposit, func(what string, u thread.Turn) {
		words := []int{code.Joined(u.T), code.Joined(0), code.First(u.T), code.Deposited(0), 0, 7, 8}
		for stop := 1; stop <= arena.Nodes(u.C); stop++ {
			count++
			w := words[count%len(words)]
			u.Th.Stop = stop
			u = set(u, stop, w)
			stepsTo(t, fmt.Sprint(what, ", node ", stop, " is ", w), u, changed(u, func(u *thread.Turn) {
				set(*u, stop, 8*(u.T+1)+3)
				u.Th.Phase = thread.Wait
			}))
		}
	})
	for _, w := range kinds() {
		u := set(filled(tree(3), 6, 1, thread.Deposit, 6), 3, w)
		u.Th.Stop, u.Th.Who = 3, 99
		stepsTo(t, fmt.Sprint("the node is ", w), u, changed(u, func(u *thread.Turn) {
			set(*u, 3, 59)
			u.Th.Phase = thread.Wait
		}))
	}
}

// P14.2: of a Stop that is no node nothing is left.
func TestDepositAtNoNode(t *testing.T) {
	for _, c := range append(configs(), without()) {
		for _, stop := range []int{least, -1 << 32, -2, -1, 0, arena.Nodes(c) + 1, arena.Nodes(c) + 2, 16, 1 << 32, greatest} {
			u := filled(c, 0, c.Items-1, thread.Deposit, 1)
			u.Th.Stop = stop
			stepsTo(t, fmt.Sprint("stop ", stop), u, copied(u))
		}
	}
}

// P14.2: with no node held at At, a step that looks at it does nothing at all; the
// others do what they do.
func TestNoHeldNode(t *testing.T) {
	for _, c := range configs() {
		for _, held := range [][]int{nil, {}, {1}, {arena.Nodes(c), 1}, {1, 1, 1, 1}} {
			for _, at := range []int{least, -1 << 32, -2, -1, len(held), len(held) + 1, 1 << 32, greatest} {
				for _, w := range []int{0, code.First(0), code.Deposited(0), 7} {
					for _, phase := range atHeld() {
						u := filled(c, 0, 0, phase, held...)
						for i := range u.M.Words {
							// Whoever looks at another word finds what it waits for.
							u.M.Words[i] = w
						}
						u.Th.At = at
						stepsTo(t, fmt.Sprint("phase ", phase, ", at ", at, " of ", held, ", words of ", w), u, copied(u))
					}
				}
				u := filled(c, 0, 0, thread.Collect, held...)
				u.Th.At = at
				stepsTo(t, fmt.Sprint("collect, at ", at, " of ", held), u, changed(u, func(u *thread.Turn) {
					u.Th.Kids = append(u.Th.Kids, thread.Kid{Thread: 0, Ahead: 2})
					u.Th.Batch = append(u.Th.Batch, entry(0))
					u.Th.Phase = thread.Free
				}))
				u.Th.Phase = thread.Publish
				stepsTo(t, fmt.Sprint("publish, at ", at, " of ", held), u, changed(u, func(u *thread.Turn) {
					u.M.Boxes[0] = slices.Clone(u.Th.Batch)
					u.Th.Phase = thread.Deposit
				}))
				u.Th.Phase = thread.Deposit
				stepsTo(t, fmt.Sprint("deposit, at ", at, " of ", held), u, changed(u, func(u *thread.Turn) {
					set(*u, 1, 11)
					u.Th.Phase = thread.Wait
				}))
			}
		}
	}
}

// P14.2: each place among the nodes that are held, told by hand: just that node is
// looked at, and becomes free.
func TestAtEdges(t *testing.T) {
	held := []int{6, 3, 1}
	for at := -2; at <= 5; at++ {
		for _, phase := range atHeld() {
			u := filled(tree(3), 4, 1, phase, held...)
			u.Th.At, u.Th.Stop = at, 0
			if at >= 0 && at < 3 {
				u = with(u, 41)
			}
			want := copied(u)
			if at >= 0 && at < 3 && phase == thread.Gather {
				want.Th.Phase = thread.Close
			}
			if at >= 0 && at < 3 && phase != thread.Gather {
				with(want, 0)
				want.Th.At++
				want.Th.Phase = []int{thread.Gather, thread.Gather, thread.Load}[at]
			}
			stepsTo(t, fmt.Sprint("phase ", phase, ", at ", at), u, want)
		}
	}
}

// P14.2: nodes in the room behind the end of the list are not held.
func TestHeldWithRoomBehind(t *testing.T) {
	for held := range 4 {
		for at := range 6 {
			for _, phase := range atHeld() {
				u := filled(tree(3), 4, 1, phase)
				for n := 1; n <= 7; n++ {
					u = set(u, n, code.First(4))
				}
				u.Th.Held, u.Th.At = []int{6, 3, 1, 7, 5, 4}[:held], at
				want := copied(u)
				if at < held && phase == thread.Gather {
					want.Th.Phase = thread.Close
				}
				if at < held && phase != thread.Gather {
					with(want, 0)
					passed(&want)
				}
				stepsTo(t, fmt.Sprint("phase ", phase, ", at ", at, " of ", held), u, want)
			}
		}
	}
}

// P14.2: a number that is held and is no node, with a tree or with none, and a
// memory without words: nothing at all is done, late or not.
func TestNoNode(t *testing.T) {
	for _, c := range append(configs(), without()) {
		for _, phase := range append(atHeld(), thread.Deposit) {
			for _, w := range []int{0, code.First(0), code.Deposited(0)} {
				for _, until := range []int{0, 1, greatest} {
					u := filled(c, 0, c.Items-1, phase, 1)
					u.Th.Until = until
					for i := range u.M.Words {
						// Whoever looks at another word finds what it waits for.
						u.M.Words[i] = w
					}
					for _, n := range []int{least, -1 << 32, -2, -1, 0, arena.Nodes(c) + 1, arena.Nodes(c) + 2, 16, 1 << 32, greatest} {
						v := copied(u)
						v.Th.Held, v.Th.Stop = []int{n}, n
						stepsTo(t, fmt.Sprint("phase ", phase, ", node ", n), v, copied(v))
					}
					u.M = wmem.Mem{}
					stepsTo(t, fmt.Sprint("phase ", phase, ", no memory"), u, copied(u))
					u.M.Words, u.M.Boxes = []int{}, [][]batch.Entry{entries(0)}
					stepsTo(t, fmt.Sprint("phase ", phase, ", no words"), u, copied(u))
				}
			}
		}
	}
}

// P14.2: with words and without boxes, or the other way round, just those steps do
// nothing that need what lacks.
func TestHalfAMemory(t *testing.T) {
	for _, phase := range ours() {
		u := with(filled(tree(2), 1, 0, phase, 3), code.First(1))
		u.Th.Who = 2
		boxes := phase == thread.Collect || phase == thread.Publish
		for _, lacks := range []string{"words", "boxes"} {
			v := copied(u)
			idle := boxes
			if lacks == "words" {
				v.M.Words, idle = nil, !boxes
			} else {
				v.M.Boxes = nil
			}
			got, is := Step(v)
			if !is || idle != reflect.DeepEqual(got, v) {
				t.Errorf("phase %d without %s: %t, %+v", phase, lacks, is, got)
			}
		}
	}
}

// P14.2: an item that there is not has no nodes.
func TestNoItem(t *testing.T) {
	for _, phase := range append(atHeld(), thread.Deposit) {
		for _, item := range []int{least, -4, -1, 4, 5, 1 << 62, greatest} {
			u := filled(tree(2), 1, item, phase, 2)
			stepsTo(t, fmt.Sprint("phase ", phase, ", item ", item), u, copied(u))
		}
	}
}

// P14.2: a node is its item's: the same node of the other ones is not looked at,
// and not changed. Places of words told by hand.
func TestItems(t *testing.T) {
	c := tree(2)
	for item := range c.Items {
		for node := 1; node <= 3; node++ {
			place := 4*item + node
			for _, x := range []struct{ phase, here, there, want int }{
				{thread.Gather, code.First(4), code.Joined(5), code.First(4)},
				{thread.Close, code.First(4), code.Joined(5), 0},
				{thread.Free, code.Deposited(5), code.Joined(5), 0},
				{thread.Deposit, code.Joined(4), code.Joined(5), code.Deposited(4)},
			} {
				u := filled(c, 4, item, x.phase, node)
				u.Th.Stop = node
				for i := range u.M.Words {
					u.M.Words[i] = x.there
				}
				u.M.Words[place] = x.here
				got, _ := Step(u)
				want := slices.Clone(u.M.Words)
				want[place] = x.want
				if got.Th.Phase == x.phase || !slices.Equal(got.M.Words, want) {
					t.Errorf("node %d of item %d, %+v: %+v, %v", node, item, x, got.Th, got.M.Words)
				}
			}
		}
	}
}

// P14.2: of a memory that is too small the node may be the only word that lacks; it
// may lie in the room behind the end.
func TestMemoryThatIsTooSmall(t *testing.T) {
	c := config.Config{Threads: 2, Items: 1, Backend: config.Tree, Depth: 2, Width: 1}
	for _, phase := range append(atHeld(), thread.Deposit) {
		u := filled(c, 1, 0, phase, 3)
		u.Th.Stop = 3
		u.M.Words = []int{5, 0, 0, code.First(1)}
		got, is := Step(u)
		if !is || got.Th.Phase == phase {
			t.Errorf("phase %d, the node is the last word: %t, %+v", phase, is, got.Th)
		}
		u.M.Words = u.M.Words[:3]
		stepsTo(t, fmt.Sprint("phase ", phase, ", the node lacks"), u, copied(u))
	}
}

// crew is threads that climb the trees of one memory, and gather there.
type crew struct {
	m     wmem.Mem
	turns []thread.Turn
}

// begun answers a turn of a thread that began an op, and climbs.
func begun(c config.Config, who, item int) thread.Turn {
	u := thread.Turn{C: c, T: who}
	u.Th = thread.Begin(c, who, thread.New(), item, entry(who).Op, 0)
	u.Th.Phase = thread.Climb
	return u
}

// muster answers threads of that config that begin at these items.
func muster(c config.Config, items ...int) crew {
	w := crew{m: arena.Build(c)}
	for who, item := range items {
		w.turns = append(w.turns, begun(c, who, item))
	}
	return w
}

// behind answers the crew behind a step of that thread at that tick.
func (w crew) behind(who, now int) crew {
	u := w.turns[who]
	u.M, u.Now = w.m, now
	u, is := climb.Step(u)
	if !is {
		u, _ = Step(u)
	}
	w.m, w.turns = u.M, slices.Clone(w.turns)
	w.turns[who] = u
	return w
}

// pick does a step of that thread.
func (w *crew) pick(who int) { *w = w.behind(who, 0) }

// told answers the crew as text: two that have the same go on alike.
func (w crew) told() string {
	var b []byte
	put := func(l ...int) {
		for _, n := range l {
			b = append(strconv.AppendInt(b, int64(n), 10), ' ')
		}
		b = append(b, ';')
	}
	whose := func(l []batch.Entry) {
		// Each thread has one op, so the rest of an entry says nothing more.
		for _, e := range l {
			put(e.Thread)
		}
		put()
	}
	put(w.m.Words...)
	for _, l := range w.m.Boxes {
		whose(l)
	}
	for _, u := range w.turns {
		put(u.Th.Phase, u.Th.Stop, u.Th.Node, u.Th.At, u.Th.Who, u.Th.X)
		put(u.Th.Held...)
		for _, k := range u.Th.Kids {
			put(k.Thread, k.Ahead)
		}
		whose(u.Th.Batch)
	}
	return string(b)
}

// gathers tells whether the thread is on its way from node to node.
func gathers(th thread.Thread) bool { return th.Phase >= thread.Gather && th.Phase <= thread.Free }

// climbs tells whether the thread is on its way up.
func climbs(th thread.Thread) bool { return th.Phase >= thread.Climb && th.Phase <= thread.Join }

// over tells whether the thread does no more by this layer and the one below.
func over(th thread.Thread) bool { return th.Phase == thread.Load || th.Phase == thread.Wait }

// word answers the word of that node of u's item.
func (w crew) word(u thread.Turn, n int) int { return w.m.Words[arena.Node(u.C, u.Th.Item, n)] }

// sound holds a thread against P14.3: it holds just the nodes that it has not
// gathered at yet; its batch is its own op, and what each kid left in its box, in
// the order of the nodes.
func (w crew) sound(t *testing.T, who int) {
	t.Helper()
	u := w.turns[who]
	th := u.Th
	if climbs(th) {
		th.At = 0
	} else if !gathers(th) && th.At != len(th.Held) {
		t.Fatalf("thread %d is at %d of its nodes: %+v", who, th.At, th)
	}
	for n := 1; n <= arena.Nodes(u.C); n++ {
		x := w.word(u, n)
		has := slices.Contains(th.Held[th.At:], n)
		joined := code.Who(x) != who && (code.Kind(x) == code.JoinedBy || code.Kind(x) == code.From)
		if has && x != code.First(who) && !joined || !has && x == code.First(who) {
			t.Fatalf("node %d is %d, with thread %d at %+v", n, x, who, th)
		}
	}
	want := entries(who)
	before := -1
	for _, k := range th.Kids {
		kid := w.turns[k.Thread].Th
		at := slices.Index(th.Held, kid.Stop)
		if k.Ahead != len(want) || at <= before || at > th.At || kid.Item != th.Item || kid.Phase != thread.Wait {
			t.Fatalf("thread %d has a kid %+v at %d: %+v; it is %+v", who, k, at, th, kid)
		}
		before = at
		want = append(want, w.m.Boxes[k.Thread]...)
	}
	if !slices.Equal(th.Batch, want) {
		t.Fatalf("thread %d has gathered %v of %v: %+v", who, th.Batch, want, th)
	}
}

// ended holds threads that all are through: all nodes are free, each op is of one
// batch that goes to the cell, and each thread that waits is a kid of one other.
func (w crew) ended(t *testing.T) {
	t.Helper()
	for _, u := range w.turns {
		for n := 1; n <= arena.Nodes(u.C); n++ {
			if x := w.word(u, n); x != 0 {
				t.Fatalf("node %d of item %d is %d: %+v", n, u.Th.Item, x, w.turns)
			}
		}
	}
	came, kids := map[int]int{}, map[int]int{}
	for _, u := range w.turns {
		for _, k := range u.Th.Kids {
			kids[k.Thread]++
		}
		if u.Th.Phase == thread.Load {
			for _, e := range u.Th.Batch {
				if e != entry(e.Thread) {
					t.Fatalf("an op of nobody: %+v", e)
				}
				came[e.Thread]++
			}
		}
	}
	for who, u := range w.turns {
		waits := 0
		if u.Th.Phase == thread.Wait {
			waits = 1
		}
		if came[who] != 1 || kids[who] != waits || len(came) != len(w.turns) {
			t.Fatalf("thread %d came %d times, and is a kid %d times: %+v", who, came[who], kids[who], u.Th)
		}
	}
}

// explore goes through all that can become of the crew, whoever is picked, at any
// of these ticks; it answers how many crews there are, and how many that end.
func explore(t *testing.T, first crew, nows ...int) (int, int) {
	t.Helper()
	seen, ends := map[string]bool{first.told(): true}, 0
	for rest := []crew{first}; len(rest) > 0; {
		w := rest[len(rest)-1]
		rest = rest[:len(rest)-1]
		busy := false
		for who, u := range w.turns {
			w.sound(t, who)
			busy = busy || !over(u.Th)
			for _, now := range nows {
				next := w.behind(who, now)
				if text := next.told(); !seen[text] {
					seen[text] = true
					rest = append(rest, next)
				}
			}
		}
		if !busy {
			w.ended(t)
			ends++
		}
	}
	return len(seen), ends
}

// alone answers the crew behind so many picks of that thread.
func (w crew) alone(who, picks int) crew {
	for range picks {
		w.pick(who)
	}
	return w
}

// P14.3: a thread that climbs and gathers alone holds nothing behind it, two steps
// each node up, and two down, at each depth, from each leaf, at each item; its batch
// is its own op, and all words and boxes are as they were.
func TestAlone(t *testing.T) {
	for depth := 1; depth <= api.MaxDepth; depth++ {
		c := tree(depth)
		for who := range c.Threads {
			for item := range c.Items {
				w := muster(c, make([]int, c.Threads)...)
				w.turns[who] = begun(c, who, item)
				w = w.alone(who, 2*depth)
				way := shape.Path(depth, who)
				for at, n := range way {
					if th := w.turns[who].Th; th.Phase != thread.Gather || th.At != at || w.word(w.turns[who], n) != code.First(who) {
						t.Fatalf("thread %d, depth %d, item %d: at %d of %v: %+v", who, depth, item, at, way, th)
					}
					w.pick(who)
					if th := w.turns[who].Th; th.Phase != thread.Close || th.At != at || w.word(w.turns[who], n) != code.First(who) {
						t.Fatalf("thread %d, depth %d, item %d: at %d of %v: %+v", who, depth, item, at, way, th)
					}
					w.pick(who)
					w.sound(t, who)
				}
				th := w.turns[who].Th
				if th.Phase != thread.Load || th.At != depth || !slices.Equal(th.Held, way) || len(th.Kids) != 0 || !slices.Equal(th.Batch, entries(who)) || !reflect.DeepEqual(w.m, arena.Build(c)) {
					t.Errorf("thread %d, depth %d, item %d: %+v, %v", who, depth, item, th, w.m)
				}
			}
		}
	}
}

// P14.3: a thread waits at a node that another one joined till that one left its
// batch, and takes it then.
func TestKidBeforeAndBehindItsDeposit(t *testing.T) {
	w := muster(tree(1), 2, 2)
	w = w.alone(0, 2).alone(1, 2)
	for _, phase := range []int{thread.Publish, thread.Deposit} {
		before := w.told()
		if w.turns[1].Th.Phase != phase || w.alone(0, 5).told() != before {
			t.Errorf("the first one does not wait: %+v", w.alone(0, 5).turns)
		}
		w.pick(1)
	}
	w = w.alone(0, 3)
	w.sound(t, 0)
	w.ended(t)
	if th := w.turns[0].Th; th.Phase != thread.Load || !slices.Equal(th.Batch, entries(0, 1)) {
		t.Errorf("the first one: %+v", th)
	}
	if th := w.turns[1].Th; th.Phase != thread.Wait || th.Stop != 1 || !slices.Equal(w.m.Boxes[1], entries(1)) {
		t.Errorf("the second one: %+v, %v", th, w.m.Boxes)
	}
}

// P14.3: a thread that another one joins while it is about to close its node does
// not close it, and takes that one's batch.
func TestKidAheadOfTheClose(t *testing.T) {
	w := muster(tree(1), 0, 0)
	w = w.alone(0, 3).alone(1, 2)
	if w.turns[0].Th.Phase != thread.Close || w.turns[1].Th.Phase != thread.Publish {
		t.Fatalf("%+v", w.turns)
	}
	w = w.alone(0, 1)
	if w.turns[0].Th.Phase != thread.Gather || w.turns[0].Th.At != 0 || w.m.Words[1] != code.Joined(1) {
		t.Errorf("the first one: %+v, %v", w.turns[0].Th, w.m.Words)
	}
	w = w.alone(1, 2).alone(0, 3)
	w.sound(t, 0)
	w.ended(t)
}

// P14.3: the batches of two that left them at two nodes come in the order of the
// nodes, whichever came first; and so do those of a kid's kid, within its own ones.
func TestTwoNodes(t *testing.T) {
	for _, x := range []struct {
		order []int
		batch []int
		kids  []thread.Kid
	}{
		{[]int{1, 2}, []int{0, 1, 2}, []thread.Kid{{Thread: 1, Ahead: 1}, {Thread: 2, Ahead: 2}}},
		{[]int{2, 1}, []int{0, 1, 2}, []thread.Kid{{Thread: 1, Ahead: 1}, {Thread: 2, Ahead: 2}}},
		{[]int{3, 1}, []int{0, 1, 3}, []thread.Kid{{Thread: 1, Ahead: 1}, {Thread: 3, Ahead: 2}}},
		{[]int{2}, []int{0, 2}, []thread.Kid{{Thread: 2, Ahead: 1}}},
		{[]int{1}, []int{0, 1}, []thread.Kid{{Thread: 1, Ahead: 1}}},
		{nil, []int{0}, nil},
	} {
		// Thread 0 holds its leaf, that is thread 1's, too, and the top.
		w := muster(tree(2), 1, 1, 1, 1).alone(0, 4)
		for _, who := range x.order {
			w = w.alone(who, 9)
		}
		w = w.alone(0, 9)
		w.sound(t, 0)
		if th := w.turns[0].Th; th.Phase != thread.Load || !slices.Equal(th.Batch, entries(x.batch...)) || !slices.Equal(th.Kids, x.kids) {
			t.Errorf("%v: %+v", x.order, th)
		}
	}
	// Thread 2 has thread 3 as a kid at their leaf, ahead of leaving both at the top.
	w := muster(tree(2), 1, 1, 1, 1).alone(0, 4).alone(2, 2).alone(3, 9).alone(2, 9).alone(1, 9).alone(0, 9)
	w.sound(t, 0)
	w.ended(t)
	if th := w.turns[0].Th; !slices.Equal(th.Batch, entries(0, 1, 2, 3)) || !slices.Equal(th.Kids, []thread.Kid{{Thread: 1, Ahead: 1}, {Thread: 2, Ahead: 2}}) {
		t.Errorf("thread 0: %+v", th)
	}
	if th := w.turns[2].Th; !slices.Equal(w.m.Boxes[2], entries(2, 3)) || !slices.Equal(th.Kids, []thread.Kid{{Thread: 3, Ahead: 1}}) {
		t.Errorf("thread 2: %+v", th)
	}
}

// P14.3: however two to four threads are picked, at one tree or at several, each of
// them is sound all the while, and behind it no thread holds a node, and each
// thread's batch came to one thread that goes to the cell.
func TestAllOrders(t *testing.T) {
	for _, x := range []struct {
		depth int
		items []int
	}{
		{1, []int{0, 0}}, {1, []int{1, 1, 1}}, {1, []int{0, 1, 0}}, {1, []int{0, 0, 0, 0}},
		{2, []int{0, 0}}, {2, []int{3, 3, 3}}, {2, []int{2, 0, 2}}, {2, []int{0, 0, 0, 0}},
		{3, []int{1, 1, 1}}, {4, []int{0, 0, 0}},
	} {
		all, ends := explore(t, muster(tree(x.depth), x.items...), 0)
		if ends == 0 {
			t.Errorf("%+v: none of %d crews ended", x, all)
		}
	}
}

// P14.3: so it is with deadlines, where a thread may go down from its way at once.
func TestAllOrdersWithDeadlines(t *testing.T) {
	for depth := 1; depth <= api.MaxDepth; depth++ {
		c := tree(depth)
		c.Wait = 5
		all, ends := explore(t, muster(c, 0, 0, 0), 0, 5)
		if ends == 0 {
			t.Errorf("depth %d: none of %d crews ended", depth, all)
		}
	}
}

// P14.3: sixteen threads that climb and gather in one tree by turns, in several
// orders, at each depth, with deadlines and without: all of them come through.
func TestManyByTurns(t *testing.T) {
	for depth := 1; depth <= api.MaxDepth; depth++ {
		for _, wait := range []int{0, 40, api.MaxWait} {
			for _, stride := range []int{1, 3, 5, 7, 11, 15} {
				c := tree(depth)
				c.Wait = wait
				w := muster(c, make([]int, c.Threads)...)
				for now := range 3000 {
					who := now * stride % c.Threads
					w = w.behind(who, now)
					w.sound(t, who)
				}
				w.ended(t)
			}
		}
	}
}

// R1: at any numbers no call panics.
func TestAnyNumbers(t *testing.T) {
	numbers := []int{least, -1 << 32, -1, 0, 1, 3, 1 << 32, greatest}
	for _, a := range numbers {
		for _, b := range numbers {
			for phase := -1; phase <= 27; phase++ {
				u := filled(tree(2), a, b, phase, a, b)
				u.C.Threads, u.C.Items, u.C.Layers, u.C.Width = b, a, b, a
				u.Th.At, u.Th.Stop, u.Th.Who, u.Th.Until, u.Now = b, a, b, a, b
				for range 2 {
					Step(u)
					Take(u, b, nil)
					u.C.Depth = b
				}
				Step(thread.Turn{T: a, Th: thread.Thread{Phase: phase, Stop: b, At: a, Who: a, Held: []int{a, b}}})
				Take(thread.Turn{T: a}, b, []batch.Entry{{Thread: a, Op: oper.Op{Tag: b, V: a}}})
			}
		}
	}
}
