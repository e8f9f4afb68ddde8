package climb

import (
	"fmt"
	"math"
	"reflect"
	"slices"
	"testing"

	"millstream/api"
	"millstream/arena"
	"millstream/batch"
	"millstream/code"
	"millstream/config"
	"millstream/oper"
	"millstream/shape"
	"millstream/tape"
	"millstream/thread"
	"millstream/wmem"
)

const (
	least    = math.MinInt
	greatest = math.MaxInt
)

// configs answers configs with a tree of each depth, of each backend, with
// deadlines and without, and the greatest one that may be.
func configs() []config.Config {
	return []config.Config{
		{Threads: 4, Items: 2, Backend: config.Tree, Depth: 1, Width: 1},
		{Threads: 5, Items: 2, Backend: config.Tree, Depth: 2, Width: 1, Wait: 9},
		{Threads: 8, Items: 3, Backend: config.Tree, Depth: 3, Width: 1, Bounded: true, Lo: -10, Hi: 40, Init: 3},
		{Threads: 1, Items: 1, Backend: config.Tree, Depth: 4, Width: 8, Init: 5},
		{Threads: 5, Items: 3, Backend: config.Funnel, Depth: 2, Layers: 2, Width: 3, Spin: 4},
		{Threads: 16, Items: 4, Backend: config.Cell, Depth: 4, Layers: 3, Width: 8, Spin: 20, Wait: 1000},
	}
}

// tree is a config of a tree of that depth, for as many threads and items as may
// be.
func tree(depth int) config.Config {
	return config.Config{Threads: api.MaxThreads, Items: api.MaxItems, Backend: config.Tree, Depth: depth, Width: 1}
}

// without answers a config without a tree.
func without() config.Config {
	return config.Config{Threads: 3, Items: 2, Backend: config.Cell, Width: 1}
}

// filled answers a turn of thread t all of whose fields are set, each word and
// number to one that no other has, its lists new each time.
func filled(c config.Config, t, item, node, phase int) thread.Turn {
	m := arena.Build(c)
	for i := range m.Words {
		// None of these is a word that says anything.
		m.Words[i] = 7 + 8*(1000+i)
	}
	for i := range m.Boxes {
		m.Boxes[i] = []batch.Entry{{Thread: i, Op: oper.Op{Tag: oper.Add, V: 500 + i}}}
	}
	return thread.Turn{
		C: c, T: t, Now: 201, M: m,
		Th: thread.Thread{
			Phase: phase, Item: item, Op: oper.Op{Tag: 202, V: 203},
			Batch: []batch.Entry{{Thread: 204, Op: oper.Op{Tag: 205, V: 206}}},
			Kids:  []thread.Kid{{Thread: 2, Ahead: 1}, {Thread: 4, Ahead: 3}},
			Held:  []int{216, 217},
			Stop:  219, Node: node, At: 221, Layer: 222, Left: 223, Width: 224, Who: 225, X: 226, Y: 227, Until: 228,
		},
		Tape: tape.Tape{L: []int{231, 232}, At: 1},
		Log:  []thread.Mark{{Thread: 241, Item: 242, Op: oper.Op{Tag: 243, V: 244}, Prior: 245, Step: 246}},
	}
}

// with sets the word of the node that u's thread looks at.
func with(u thread.Turn, w int) thread.Turn {
	u.M.Words[arena.Node(u.C, u.Th.Item, u.Th.Node)] = w
	return u
}

// copied answers a turn that shares no memory with u.
func copied(u thread.Turn) thread.Turn {
	u.M.Words = slices.Clone(u.M.Words)
	u.M.Boxes = slices.Clone(u.M.Boxes)
	for i, b := range u.M.Boxes {
		u.M.Boxes[i] = slices.Clone(b)
	}
	u.Th.Batch = slices.Clone(u.Th.Batch)
	u.Th.Kids = slices.Clone(u.Th.Kids)
	u.Th.Held = slices.Clone(u.Th.Held)
	u.Tape.L = slices.Clone(u.Tape.L)
	u.Log = slices.Clone(u.Log)
	return u
}

// changed answers a copy of u that the change was done to.
func changed(u thread.Turn, change func(u *thread.Turn)) thread.Turn {
	u = copied(u)
	change(&u)
	return u
}

// ended does to u what a thread that climbs no further does, as the document
// tells it.
func ended(u *thread.Turn) {
	u.Th.At = 0
	u.Th.Phase = thread.Load
	if u.Th.Stop > 0 {
		u.Th.Phase = thread.Publish
	}
	if len(u.Th.Held) > 0 {
		u.Th.Phase = thread.Gather
	}
}

// is holds a turn against the wanted one. Nil lists and lists without elements
// are alike (R6), and fmt tells them alike.
func is(t *testing.T, what string, got, want thread.Turn) {
	t.Helper()
	// To tell a memory as text takes long.
	if !reflect.DeepEqual(got, want) && fmt.Sprintf("%+v", got) != fmt.Sprintf("%+v", want) {
		t.Errorf("%s:\n got %+v\nwant %+v", what, got, want)
	}
}

// stepsTo holds a step of one of this layer's phases against the wanted turn, and
// that it leaves what it was handed.
func stepsTo(t *testing.T, what string, u, want thread.Turn) thread.Turn {
	t.Helper()
	return stepped(t, what, u, want, true)
}

func stepped(t *testing.T, what string, u, want thread.Turn, wantIs bool) thread.Turn {
	t.Helper()
	was := copied(u)
	got, ours := Step(u)
	if ours != wantIs {
		t.Errorf("%s: Step tells %t", what, ours)
	}
	is(t, what, got, want)
	if !reflect.DeepEqual(u, was) {
		t.Errorf("%s: what was handed in changed: %+v, was %+v", what, u, was)
	}
	if again, _ := Step(u); !reflect.DeepEqual(again, got) {
		t.Errorf("%s: the same again is %+v, was %+v", what, again, got)
	}
	return got
}

// goesDown holds Down against the wanted phase, that all else stays, and that it
// leaves what it was handed.
func goesDown(t *testing.T, what string, u thread.Turn, phase int) {
	t.Helper()
	was := copied(u)
	is(t, what, Down(u), changed(u, func(u *thread.Turn) { u.Th.Phase = phase }))
	if !reflect.DeepEqual(u, was) {
		t.Errorf("%s: what was handed in changed: %+v, was %+v", what, u, was)
	}
}

// The configs of the tests are ones of which something is promised.
func TestConfigsMayBe(t *testing.T) {
	all := append(configs(), without())
	for depth := range api.MaxDepth + 1 {
		all = append(all, tree(depth))
	}
	for _, c := range all {
		if wrong := config.Check(c); wrong != api.OK {
			t.Errorf("%+v: %d", c, wrong)
		}
	}
}

// P13.2: the document's examples: a node that is free, in the phase Climb; and two
// threads at one leaf, of which the first one takes the node, and the second one
// joins it.
func TestExamples(t *testing.T) {
	c := config.Config{Threads: 2, Items: 1, Backend: config.Tree, Depth: 1, Width: 1}
	first := thread.Turn{C: c, M: arena.Build(c), Th: thread.Thread{Phase: thread.Climb, Node: 1}}
	first, ours := Step(first)
	if !ours || first.Th.Phase != thread.Take {
		t.Errorf("a free node: %t, %+v", ours, first.Th)
	}
	first, _ = Step(first)
	if first.Th.Phase != thread.Gather || !slices.Equal(first.Th.Held, []int{1}) || first.M.Words[1] != 9 {
		t.Errorf("the first one: %+v, %v", first.Th, first.M.Words)
	}
	second := thread.Turn{C: c, T: 1, M: first.M, Th: thread.Thread{Phase: thread.Climb, Node: 1}}
	second, _ = Step(second)
	if second.Th.Phase != thread.Join || second.Th.X != 9 {
		t.Errorf("the second one looked: %+v", second.Th)
	}
	second, _ = Step(second)
	if second.Th.Phase != thread.Publish || second.Th.Stop != 1 || len(second.Th.Held) != 0 || second.M.Words[1] != 18 {
		t.Errorf("the second one joined: %+v, %v", second.Th, second.M.Words)
	}
}

// P13.1: phases told by hand.
func TestDownEdges(t *testing.T) {
	for _, x := range []struct{ at, held, stop, want int }{
		{0, 0, 0, thread.Load}, {0, 0, 1, thread.Publish}, {0, 0, -1, thread.Load},
		{0, 1, 0, thread.Gather}, {0, 1, 1, thread.Gather}, {0, 1, -1, thread.Gather},
		{1, 1, 0, thread.Load}, {1, 1, 1, thread.Publish}, {1, 1, -1, thread.Load},
		{-1, 1, 0, thread.Load}, {-1, 1, 1, thread.Publish}, {-1, 1, -1, thread.Load},
		{-1, 0, 0, thread.Load}, {-1, 0, 1, thread.Publish},
		{1, 0, 0, thread.Load}, {1, 0, 15, thread.Publish},
		{1, 2, 7, thread.Gather}, {2, 2, 7, thread.Publish}, {3, 2, 7, thread.Publish}, {3, 2, 0, thread.Load},
		{3, 4, 0, thread.Gather}, {4, 4, 0, thread.Load}, {4, 4, 1, thread.Publish},
		{least, 4, 0, thread.Load}, {greatest, 4, 0, thread.Load}, {1 << 32, 4, 0, thread.Load}, {-1 << 32, 4, 2, thread.Publish},
		{0, 0, least, thread.Load}, {0, 0, greatest, thread.Publish}, {9, 1, 1 << 32, thread.Publish}, {9, 1, -1 << 32, thread.Load},
	} {
		u := thread.Turn{Th: thread.Thread{At: x.at, Held: make([]int, x.held), Stop: x.stop}}
		goesDown(t, fmt.Sprintf("%+v", x), u, x.want)
	}
}

// P13.1: Down looks at nothing but At, how many nodes are Held, and Stop; all that
// is not named stays, also At and Done.
func TestDown(t *testing.T) {
	for _, c := range configs() {
		for _, held := range [][]int{nil, {}, {0}, {5}, {5, 2, 1}, {0, -1, least}} {
			for _, at := range []int{least, -1, 0, 1, len(held) - 1, len(held), len(held) + 1, greatest} {
				for _, stop := range []int{least, -1, 0, 1, 8, greatest} {
					for _, phase := range []int{-1, thread.Idle, thread.Climb, thread.Take, thread.Join, thread.Gather, thread.Close, 99} {
						u := filled(c, c.Threads-1, 0, 1, phase)
						u.Th.Held, u.Th.At, u.Th.Stop, u.Done = slices.Clone(held), at, stop, at%2 == 0
						want := thread.Load
						if stop > 0 {
							want = thread.Publish
						}
						if at >= 0 && at < len(held) {
							want = thread.Gather
						}
						goesDown(t, fmt.Sprint("at ", at, " of ", held, ", stop ", stop), u, want)
					}
				}
			}
		}
	}
}

// P13.1: it is the same whether the thread is late, and with no memory.
func TestDownLooksAtNothingElse(t *testing.T) {
	for _, x := range []struct{ now, until int }{{0, 0}, {9, 9}, {8, 9}, {greatest, 1}} {
		u := filled(tree(3), 4, 1, 2, thread.Free)
		u.Now, u.Th.Until, u.Th.Stop, u.M = x.now, x.until, 0, wmem.Mem{}
		for at, want := range []int{thread.Gather, thread.Gather, thread.Load} {
			u.Th.At = at
			goesDown(t, fmt.Sprintf("%+v", x), u, want)
		}
	}
}

// P13.1: nodes in the room behind the end of a list are not held.
func TestDownWithRoomBehind(t *testing.T) {
	for held := range 4 {
		for at := range 6 {
			u := filled(tree(3), 4, 1, 2, thread.Free)
			u.Th.Held, u.Th.Stop, u.Th.At = []int{6, 3, 1, 9, 9, 9}[:held], 0, at
			want := thread.Load
			if at < held {
				want = thread.Gather
			}
			goesDown(t, fmt.Sprint("at ", at, " of ", held), u, want)
		}
	}
}

// P13.2: the phases of this layer are three; of all others the turn is as it is,
// whatever its node says.
func TestPhases(t *testing.T) {
	ours := []int{thread.Climb, thread.Take, thread.Join}
	others := []int{least, -99, -2, -1, 27, 28, 99, greatest, thread.Climb + 1<<32, thread.Take - 1<<32, -thread.Join}
	for phase := thread.Idle; phase <= thread.Leave; phase++ {
		if slices.Contains(ours, phase) {
			if _, got := Step(filled(tree(2), 1, 0, 2, phase)); !got {
				t.Errorf("phase %d is not taken", phase)
			}
			continue
		}
		others = append(others, phase)
	}
	if len(others) != 11+27-3 {
		t.Errorf("%d phases", len(others))
	}
	for _, c := range configs() {
		for _, phase := range others {
			for _, w := range []int{0, code.First(0), 226, 7} {
				for _, node := range []int{1, arena.Nodes(c)} {
					for _, done := range []bool{false, true} {
						u := with(filled(c, 0, 0, node, phase), w)
						u.Done = done
						stepped(t, fmt.Sprint("phase ", phase), u, copied(u), false)
					}
				}
			}
		}
	}
}

// clocks answers ticks, deadlines, and whether who has that deadline is late then.
func clocks() []struct {
	now, until int
	late       bool
} {
	return []struct {
		now, until int
		late       bool
	}{
		{0, 0, false}, {greatest, 0, false}, {9, -1, false}, {9, least, false},
		{8, 9, false}, {9, 9, true}, {10, 9, true}, {1, 1, true}, {0, 1, false},
		{greatest, greatest, true}, {greatest - 1, greatest, false}, {least, 1, false},
	}
}

// everyTurn goes through turns in that phase at each node of the first and of the
// last item of each config, with nodes held and without, that joined a node and
// did not, and that are done and not; every other one is of the first thread, and
// the rest of the last one.
func everyTurn(phase int, each func(u thread.Turn)) {
	for _, c := range configs() {
		who := 0
		for _, item := range []int{0, c.Items - 1} {
			for node := 1; node <= arena.Nodes(c); node++ {
				for _, held := range [][]int{nil, {8}, {9, 4, 2}} {
					for _, stop := range []int{-1, 0, 3} {
						u := filled(c, who, item, node, phase)
						u.Th.Held, u.Th.Stop, u.Done = held, stop, stop == 0
						each(u)
						who = c.Threads - 1 - who
					}
				}
			}
		}
	}
}

// P13.2: at a node that is free a thread that climbs goes on to take it, late or
// not; nothing else changes.
func TestClimbFree(t *testing.T) {
	everyTurn(thread.Climb, func(u thread.Turn) {
		u = with(u, 0)
		for _, x := range clocks() {
			u.Now, u.Th.Until = x.now, x.until
			stepsTo(t, fmt.Sprintf("a free node, %+v", x), u, changed(u, func(u *thread.Turn) { u.Th.Phase = thread.Take }))
		}
	})
}

// P13.2: at a node that has a first one, be it the thread itself, a thread that
// climbs goes on to join it, late or not, and keeps the word that it saw.
func TestClimbFirst(t *testing.T) {
	everyTurn(thread.Climb, func(u thread.Turn) {
		for _, first := range []int{0, 1, api.MaxThreads - 1, u.T} {
			for _, x := range clocks() {
				w := 8*(first+1) + 1
				u = with(u, w)
				u.Now, u.Th.Until = x.now, x.until
				stepsTo(t, fmt.Sprintf("first is %d, %+v", first, x), u, changed(u, func(u *thread.Turn) {
					u.Th.X, u.Th.Phase = w, thread.Join
				}))
			}
		}
	})
}

// crowded answers words of each kind at which a thread can neither take a node nor
// join it, and words that say nothing.
func crowded() []int {
	l := []int{
		code.Told(), 7, 6, 8, 1, 2, 3, 4, 13, -1, -8, least, greatest, 1 << 32, 1<<32 + 9, -7,
		code.First(api.MaxThreads), code.Joined(api.MaxThreads), code.Deposited(api.MaxThreads),
		code.Open(0, 1), code.Open(api.MaxItems-1, api.MaxLayers), code.Open(0, 0),
	}
	for t := range api.MaxThreads {
		l = append(l, code.Joined(t), code.Deposited(t))
	}
	return l
}

// P13.2: at any other node a thread that climbs waits; if it is late, it goes down
// from where it is.
func TestClimbCrowded(t *testing.T) {
	everyTurn(thread.Climb, func(u thread.Turn) {
		for i, w := range crowded() {
			x := clocks()[i%len(clocks())]
			u = with(u, w)
			u.Now, u.Th.Until = x.now, x.until
			want := copied(u)
			if x.late {
				ended(&want)
			}
			stepsTo(t, fmt.Sprintf("the node is %d, %+v", w, x), u, want)
		}
	})
}

// P13.2: each of these words, at each tick; told by hand is what a thread does.
func TestClimbCrowdedEdges(t *testing.T) {
	for _, w := range crowded() {
		for _, x := range clocks() {
			for _, y := range []struct{ held, stop, want int }{
				{0, 0, thread.Load}, {0, -1, thread.Load}, {0, 2, thread.Publish}, {1, 0, thread.Gather}, {3, 2, thread.Gather},
			} {
				for _, at := range []int{-1, 0, 1, 5} {
					u := with(filled(tree(3), 2, 1, 5, thread.Climb), w)
					u.Now, u.Th.Until, u.Th.At, u.Th.Stop, u.Th.Held = x.now, x.until, at, y.stop, make([]int, y.held)
					got, ours := Step(u)
					phase, place := thread.Climb, at
					if x.late {
						phase, place = y.want, 0
					}
					if !ours || got.Th.Phase != phase || got.Th.At != place || got.Th.X != 226 {
						t.Errorf("%d, %+v, %+v: %+v", w, x, y, got.Th)
					}
				}
			}
		}
	}
}

// P13.2: who takes a node that is free has its word there, and holds it behind
// those that it has; it climbs on, or goes down, if there is none above. No other
// word changes, and it is the same when it is late.
func TestTake(t *testing.T) {
	everyTurn(thread.Take, func(u thread.Turn) {
		for _, x := range clocks()[3:6] {
			u = with(u, 0)
			u.Now, u.Th.Until = x.now, x.until
			stepsTo(t, fmt.Sprintf("taken, %+v", x), u, changed(u, func(u *thread.Turn) {
				with(*u, 8*(u.T+1)+1)
				u.Th.Held = append(u.Th.Held, u.Th.Node)
				u.Th.Node = u.Th.Node / 2
				u.Th.Phase = thread.Climb
				if u.Th.Node == 0 {
					ended(u)
				}
			}))
		}
	})
}

// P13.2: takes told by hand: at leaves, at a node in between, and at the top.
func TestTakeEdges(t *testing.T) {
	for _, x := range []struct {
		depth, who, node, at int
		held, wantHeld       []int
		stop, wantNode, want int
		wantAt               int
	}{
		{1, 0, 1, 0, nil, []int{1}, 0, 0, thread.Gather, 0},
		{2, 1, 2, 0, nil, []int{2}, 0, 1, thread.Climb, 0},
		{2, 3, 3, 5, nil, []int{3}, 0, 1, thread.Climb, 5},
		{2, 2, 1, 5, []int{3}, []int{3, 1}, 0, 0, thread.Gather, 0},
		{3, 5, 6, -1, nil, []int{6}, 0, 3, thread.Climb, -1},
		{3, 5, 3, 1, []int{6}, []int{6, 3}, 0, 1, thread.Climb, 1},
		{3, 5, 1, 1, []int{6, 3}, []int{6, 3, 1}, 0, 0, thread.Gather, 0},
		{4, 15, 15, 0, []int{}, []int{15}, 0, 7, thread.Climb, 0},
		{4, 15, 1, -9, nil, []int{1}, 4, 0, thread.Gather, 0},
		{4, 0, 2, 3, []int{2, 2}, []int{2, 2, 2}, 4, 1, thread.Climb, 3},
	} {
		u := with(filled(tree(x.depth), x.who, 3, x.node, thread.Take), 0)
		u.Th.Held, u.Th.Stop, u.Th.At = x.held, x.stop, x.at
		stepsTo(t, fmt.Sprintf("%+v", x), u, changed(u, func(u *thread.Turn) {
			with(*u, code.First(x.who))
			u.Th.Held, u.Th.Node, u.Th.Phase, u.Th.At = x.wantHeld, x.wantNode, x.want, x.wantAt
		}))
	}
}

// P13.2: a node that is not free is not taken, not even by who is first there, nor
// where X is what it is: the thread looks again, late or not.
func TestTakeFails(t *testing.T) {
	everyTurn(thread.Take, func(u thread.Turn) {
		for i, w := range append(crowded(), code.First(0), code.First(u.T), code.First(api.MaxThreads-1), 226) {
			x := clocks()[i%len(clocks())]
			u = with(u, w)
			u.Now, u.Th.Until = x.now, x.until
			stepsTo(t, fmt.Sprintf("the node is %d, %+v", w, x), u, changed(u, func(u *thread.Turn) { u.Th.Phase = thread.Climb }))
		}
	})
}

// P13.2: who joins a node that is X still has its word there, and stops at it; it
// goes down from where it is, late or not.
func TestJoin(t *testing.T) {
	everyTurn(thread.Join, func(u thread.Turn) {
		for i, w := range []int{code.First(0), code.First(1), code.First(api.MaxThreads - 1), code.First(u.T)} {
			x := clocks()[i+3]
			u = with(u, w)
			u.Now, u.Th.Until, u.Th.X = x.now, x.until, w
			stepsTo(t, fmt.Sprintf("joined %d, %+v", w, x), u, changed(u, func(u *thread.Turn) {
				with(*u, 8*(u.T+1)+2)
				u.Th.Stop = u.Th.Node
				ended(u)
			}))
		}
	})
}

// P13.2: by the words of the document the comparison with X alone decides, also
// where X is no word of a first one.
func TestJoinOfAnyNumbers(t *testing.T) {
	for _, w := range append(crowded(), 0) {
		for _, held := range [][]int{nil, {7}} {
			u := with(filled(tree(3), 6, 2, 3, thread.Join), w)
			u.Th.X, u.Th.Held = w, held
			want := thread.Publish
			if held != nil {
				want = thread.Gather
			}
			stepsTo(t, fmt.Sprint("joined ", w), u, changed(u, func(u *thread.Turn) {
				with(*u, code.Joined(6))
				u.Th.Stop, u.Th.At, u.Th.Phase = 3, 0, want
			}))
		}
	}
}

// P13.2: a node that is not X any more is not joined: the thread looks again, late
// or not, and stops nowhere.
func TestJoinFails(t *testing.T) {
	everyTurn(thread.Join, func(u thread.Turn) {
		for i, y := range []struct{ node, x int }{
			{0, code.First(1)}, {code.First(0), code.First(1)}, {code.Joined(1), code.First(1)}, {code.Deposited(1), code.First(1)},
			{code.Joined(u.T), code.First(1)}, {code.First(1), 0}, {code.First(u.T), code.Joined(u.T)},
			{1 << 32, 0}, {least, 0}, {greatest, least}, {7, -7},
		} {
			x := clocks()[i]
			u = with(u, y.node)
			u.Now, u.Th.Until, u.Th.X = x.now, x.until, y.x
			stepsTo(t, fmt.Sprintf("%+v, %+v", y, x), u, changed(u, func(u *thread.Turn) { u.Th.Phase = thread.Climb }))
		}
	})
}

// P13.2: a node is its item's: the same node of the other ones is not looked at,
// and not changed.
func TestItems(t *testing.T) {
	c := tree(2)
	for item := range c.Items {
		for node := 1; node <= 3; node++ {
			for other := range c.Items {
				for there := 1; there <= 3; there++ {
					if other == item && there == node {
						continue
					}
					u := thread.Turn{C: c, T: 4, M: arena.Build(c)}
					u.M.Words[arena.Node(c, other, there)] = code.First(2)
					u.Th = thread.Thread{Phase: thread.Climb, Item: item, Node: node}
					u, _ = Step(u)
					u, _ = Step(u)
					want := arena.Build(c)
					want.Words[arena.Node(c, other, there)] = code.First(2)
					want.Words[1+4*item+node-1] = code.First(4)
					if !reflect.DeepEqual(u.M, want) || !slices.Equal(u.Th.Held, []int{node}) {
						t.Errorf("node %d of item %d: %+v", node, item, u)
					}
				}
			}
		}
	}
}

// P13.2: a node that there is not, of a tree, or with no tree at all, and a memory
// without words: nothing at all is done, late or not.
func TestNoNode(t *testing.T) {
	for _, c := range append(configs(), without()) {
		for _, phase := range []int{thread.Climb, thread.Take, thread.Join} {
			for _, x := range []int{0, 7, code.First(1)} {
				for _, clock := range clocks()[3:6] {
					for _, held := range [][]int{nil, {2, 1}} {
						u := filled(c, 0, c.Items-1, 1, phase)
						u.Now, u.Th.Until, u.Th.X, u.Th.Held = clock.now, clock.until, x, held
						for i := range u.M.Words {
							// Whoever looks at another word finds what it waits for.
							u.M.Words[i] = x
						}
						for _, node := range []int{least, -1 << 32, -2, -1, 0, arena.Nodes(c) + 1, arena.Nodes(c) + 2, 16, 1 << 32, greatest} {
							v := copied(u)
							v.Th.Node = node
							stepsTo(t, fmt.Sprint("phase ", phase, ", node ", node), v, copied(v))
						}
						u.M = wmem.Mem{}
						stepsTo(t, fmt.Sprint("phase ", phase, ", no memory"), u, copied(u))
						u.M.Words = []int{}
						stepsTo(t, fmt.Sprint("phase ", phase, ", no words"), u, copied(u))
					}
				}
			}
		}
	}
}

// P13.2: an item that there is not has no nodes.
func TestNoItem(t *testing.T) {
	for _, phase := range []int{thread.Climb, thread.Take, thread.Join} {
		for _, item := range []int{least, -4, -1, 4, 5, 1 << 62, greatest} {
			u := filled(tree(2), 1, item, 2, phase)
			u.Th.Until = 1
			stepsTo(t, fmt.Sprint("phase ", phase, ", item ", item), u, copied(u))
		}
	}
}

// P13.2: of a memory that is too small the last node may be the only one that
// lacks.
func TestMemoryThatIsTooSmall(t *testing.T) {
	c := config.Config{Threads: 2, Items: 1, Backend: config.Tree, Depth: 2, Width: 1}
	u := filled(c, 1, 0, 3, thread.Take)
	u.Th.Held = nil
	u.M.Words = []int{5, 0, 0, 0}
	stepsTo(t, "the node is the last word", u, changed(u, func(u *thread.Turn) {
		u.M.Words[3] = code.First(1)
		u.Th.Held, u.Th.Node, u.Th.Phase = []int{3}, 1, thread.Climb
	}))
	for _, phase := range []int{thread.Climb, thread.Take, thread.Join} {
		v := copied(u)
		v.Th.Phase, v.Th.X, v.Th.Until = phase, 0, 1
		// The word lies in the room behind the end.
		v.M.Words = v.M.Words[:3]
		stepsTo(t, fmt.Sprint("phase ", phase, ", the node lacks"), v, copied(v))
	}
}

// R4: two turns that go on from one list of nodes with room behind it do not write
// over one another's nodes, nor into that room.
func TestHeldHasItsOwnMemory(t *testing.T) {
	room := make([]int, 1, 50)
	room[0] = 6
	a := with(filled(tree(3), 4, 0, 3, thread.Take), 0)
	b := with(filled(tree(3), 5, 0, 2, thread.Take), 0)
	a.Th.Held, b.Th.Held = room, room
	first, _ := Step(a)
	was := copied(first)
	second, _ := Step(b)
	is(t, "the first one's turn behind the second one's", first, was)
	if !slices.Equal(first.Th.Held, []int{6, 3}) || !slices.Equal(second.Th.Held, []int{6, 2}) {
		t.Errorf("held are %v and %v", first.Th.Held, second.Th.Held)
	}
	for i, n := range room[1:cap(room)] {
		if n != 0 {
			t.Errorf("written into the room at %d: %d", i, n)
		}
	}
	// So it is at the top, too, and with a list that has room and no nodes.
	a = with(filled(tree(3), 4, 0, 1, thread.Take), 0)
	a.Th.Held = room[:0]
	first, _ = Step(a)
	if !slices.Equal(first.Th.Held, []int{1}) || room[0] != 6 || first.Th.Phase != thread.Gather {
		t.Errorf("held are %v; there is %d in the room", first.Th.Held, room[0])
	}
}

// P13.2: two threads that both saw a node free: the first one takes it, the other
// one looks again, and joins; a third one finds neither.
func TestThreeAtOneNode(t *testing.T) {
	c := tree(2)
	m := arena.Build(c)
	turns := [3]thread.Turn{}
	for i := range turns {
		turns[i] = thread.Turn{C: c, T: i, Th: thread.Thread{Phase: thread.Climb, Item: 1, Node: 3}}
	}
	for _, x := range []struct{ who, phase, word int }{
		{0, thread.Take, 0}, {1, thread.Take, 0},
		{1, thread.Climb, code.First(1)}, {0, thread.Climb, code.First(1)},
		{0, thread.Join, code.First(1)}, {2, thread.Join, code.First(1)},
		{2, thread.Publish, code.Joined(2)}, {0, thread.Climb, code.Joined(2)},
		{0, thread.Climb, code.Joined(2)}, {0, thread.Climb, code.Joined(2)},
	} {
		turns[x.who].M = m
		u, ours := Step(turns[x.who])
		turns[x.who], m = u, u.M
		if !ours || u.Th.Phase != x.phase || m.Words[arena.Node(c, 1, 3)] != x.word {
			t.Fatalf("%+v: %+v, %v", x, u.Th, m.Words)
		}
	}
	// Who waits goes on, if the node is free again, or if it is late.
	turns[0].M, turns[0].Th.Until, turns[0].Now = m, 4, 4
	if u, _ := Step(turns[0]); u.Th.Phase != thread.Load {
		t.Errorf("late: %+v", u.Th)
	}
	turns[0].M, _ = wmem.Store(m, arena.Node(c, 1, 3), 0)
	if u, _ := Step(turns[0]); u.Th.Phase != thread.Take {
		t.Errorf("free again: %+v", u.Th)
	}
}

// P13.3: a thread that climbs alone holds all nodes of its way, up to the top, two
// steps each, at each depth, from each leaf, at each item; no other word changes.
func TestAlone(t *testing.T) {
	for depth := 1; depth <= api.MaxDepth; depth++ {
		c := tree(depth)
		for who := range c.Threads {
			for item := range c.Items {
				u := begun(c, who, item)
				u.M = arena.Build(c)
				for range 2 * depth {
					u, _ = Step(u)
				}
				way := shape.Path(depth, who)
				want := arena.Build(c)
				for _, n := range way {
					want.Words[arena.Node(c, item, n)] = code.First(who)
				}
				if u.Th.Phase != thread.Gather || u.Th.At != 0 || u.Th.Stop != 0 || u.Th.Node != 0 || !slices.Equal(u.Th.Held, way) || !reflect.DeepEqual(u.M, want) {
					t.Errorf("thread %d, depth %d, item %d: %+v", who, depth, item, u)
				}
			}
		}
	}
}

// begun answers a turn of a thread that began an op, and climbs.
func begun(c config.Config, who, item int) thread.Turn {
	u := thread.Turn{C: c, T: who}
	u.Th = thread.Begin(c, who, thread.New(), item, oper.Op{Tag: oper.Add, V: 1}, 0)
	u.Th.Phase = thread.Climb
	return u
}

// crew is threads that climb the trees of one memory.
type crew struct {
	m     wmem.Mem
	turns []thread.Turn
}

// muster answers threads of that config that begin at these items.
func muster(c config.Config, items ...int) *crew {
	w := crew{m: arena.Build(c)}
	for who, item := range items {
		w.turns = append(w.turns, begun(c, who, item))
	}
	return &w
}

// climbs tells whether the thread is on its way up still.
func climbs(th thread.Thread) bool {
	return th.Phase == thread.Climb || th.Phase == thread.Take || th.Phase == thread.Join
}

// pick does a step of that thread at that tick.
func (w *crew) pick(who, now int) {
	u := w.turns[who]
	u.M, u.Now = w.m, now
	v, _ := Step(u)
	w.turns[who], w.m = v, v.M
}

// word answers the word of that node of u's item.
func (w *crew) word(u thread.Turn, n int) int { return w.m.Words[arena.Node(u.C, u.Th.Item, n)] }

// sound holds a thread against P13.3: what it holds is its way so far; it is
// either on its way, or at the top, or joined at the node behind that, or late.
func (w *crew) sound(t *testing.T, who, now int) {
	t.Helper()
	u := w.turns[who]
	th, way := u.Th, shape.Path(u.C.Depth, who)
	n := len(th.Held)
	if n > len(way) || !slices.Equal(th.Held, way[:n]) {
		t.Fatalf("thread %d holds %v of %v", who, th.Held, way)
	}
	for _, node := range th.Held {
		// Nobody but one that joins changes a node that is held.
		if x := w.word(u, node); x != code.First(who) && code.Kind(x) != code.JoinedBy {
			t.Fatalf("node %d, held by %d, is %d", node, who, x)
		}
	}
	down := thread.Load
	if n > 0 {
		down = thread.Gather
	}
	switch {
	case climbs(th):
		if th.Stop != 0 || n == len(way) || th.Node != way[n] {
			t.Fatalf("thread %d climbs %v: %+v", who, way, th)
		}
	case th.Stop > 0:
		if n == 0 {
			down = thread.Publish
		}
		if n == len(way) || th.Stop != way[n] || th.Node != way[n] || th.Phase != down || w.word(u, th.Stop) != code.Joined(who) {
			t.Fatalf("thread %d joined on its way %v: %+v", who, way, th)
		}
	case n == len(way):
		if th.Node != 0 || th.Phase != thread.Gather {
			t.Fatalf("thread %d is at the top of %v: %+v", who, way, th)
		}
	default:
		if th.Phase != down || th.Until <= 0 || now < th.Until {
			t.Fatalf("thread %d ended on its way %v: %+v", who, way, th)
		}
	}
}

// P13.3: however three threads are picked, each of them ends at the top, or joined
// to another one, with all nodes below that held. None of them waits, for no three
// meet at one node.
func TestAllOrders(t *testing.T) {
	for _, depth := range []int{2, 3} {
		c := tree(depth)
		for _, items := range [][]int{{0, 0, 0}, {1, 1, 3}, {2, 0, 2}} {
			const picks = 8
			for order := range 6561 { // 3 to the 8
				w := muster(c, items...)
				for rest := order + 6561; rest > 1; rest /= 3 {
					w.pick(rest%3, 0)
					w.sound(t, rest%3, 0)
				}
				finish(t, w)
				tops(t, w)
			}
		}
	}
}

// finish picks each thread as often as it needs to end by itself.
func finish(t *testing.T, w *crew) {
	t.Helper()
	for who := range w.turns {
		for range 12 {
			w.pick(who, 0)
		}
	}
	for who, u := range w.turns {
		w.sound(t, who, 0)
		if climbs(u.Th) {
			t.Fatalf("thread %d climbs still: %+v", who, u.Th)
		}
	}
}

// crowd tells whether two others are at the node that u's thread looks at.
func crowd(w *crew, u thread.Turn) bool {
	return code.Kind(w.word(u, u.Th.Node)) == code.JoinedBy
}

// tops holds that just one thread of each item came to the top.
func tops(t *testing.T, w *crew) {
	t.Helper()
	here, came := map[int]bool{}, map[int]int{}
	for _, u := range w.turns {
		here[u.Th.Item] = true
		if slices.Contains(u.Th.Held, 1) {
			came[u.Th.Item]++
		}
	}
	for item := range here {
		if came[item] != 1 {
			t.Fatalf("item %d: %d threads are at the top", item, came[item])
		}
	}
}

// P13.3: sixteen threads that climb one tree by turns, in several orders, at each
// depth: each ends as it is promised, or waits where two others are; with a
// deadline those go down, too, with the nodes that they hold.
func TestManyByTurns(t *testing.T) {
	for depth := 1; depth <= api.MaxDepth; depth++ {
		for _, wait := range []int{0, 40, api.MaxWait} {
			for _, stride := range []int{1, 3, 5, 7, 11, 15} {
				c := tree(depth)
				c.Wait = wait
				w := muster(c, make([]int, c.Threads)...)
				now := 0
				for ; now < 200; now++ {
					who := now * stride % c.Threads
					w.pick(who, now)
					w.sound(t, who, now)
				}
				tops(t, w)
				for who := range w.turns {
					w.pick(who, api.MaxWait)
					w.sound(t, who, api.MaxWait)
					if u := w.turns[who]; climbs(u.Th) && (wait > 0 || !crowd(w, u)) {
						t.Errorf("depth %d, wait %d, stride %d: thread %d is at %+v", depth, wait, stride, who, u.Th)
					}
				}
			}
		}
	}
}

// R1: at any numbers no call panics.
func TestAnyNumbers(t *testing.T) {
	numbers := []int{least, -1 << 32, -1, 0, 1, 3, 1 << 32, greatest}
	for _, a := range numbers {
		for _, b := range numbers {
			for phase := -1; phase <= 27; phase++ {
				u := filled(tree(2), a, b, a, phase)
				u.C.Threads, u.C.Items, u.C.Layers, u.C.Width = b, a, b, a
				u.Th.At, u.Th.Stop, u.Th.X, u.Th.Until, u.Now = b, a, b, a, b
				Step(u)
				Down(u)
				u.C.Depth = b
				Step(u)
				Step(thread.Turn{T: a, Th: thread.Thread{Phase: phase, Node: b, At: a}})
				Down(thread.Turn{T: a, Th: thread.Thread{Phase: phase, Node: b, At: a}})
			}
		}
	}
}
