package share

import (
	"fmt"
	"math"
	"reflect"
	"slices"
	"testing"

	"millstream/api"
	"millstream/arena"
	"millstream/batch"
	"millstream/code"
	"millstream/config"
	"millstream/oper"
	"millstream/tape"
	"millstream/thread"
	"millstream/wmem"
)

const (
	least    = math.MinInt
	greatest = math.MaxInt
)

// configs answers one config of each backend, with and without bounds, and the
// least and the greatest one that may be.
func configs() []config.Config {
	return []config.Config{
		{Threads: 5, Items: 2, Backend: config.Cell, Width: 1},
		{Threads: 5, Items: 2, Backend: config.Tree, Depth: 2, Width: 1, Wait: 9},
		{Threads: 5, Items: 2, Backend: config.Funnel, Layers: 2, Width: 3, Spin: 4},
		{Threads: 5, Items: 2, Backend: config.Funnel, Layers: 2, Width: 3, Bounded: true, Lo: -10, Hi: 40, Init: 3},
		{Threads: 5, Items: 1, Backend: config.Tree, Depth: 1, Width: 1, Bounded: true, Lo: 0, Hi: 12},
		{Threads: 1, Items: 1, Backend: config.Cell, Width: 1},
		{Threads: 16, Items: 4, Backend: config.Funnel, Depth: 4, Layers: 3, Width: 8, Spin: 20, Wait: 1000},
	}
}

// ops answers five ops that a cell of that config knows, some of which a bounded
// one refuses or does in part.
func ops(bounded bool) []oper.Op {
	if bounded {
		return []oper.Op{{Tag: oper.Put, V: 7}, {Tag: oper.Put, V: 30}, {Tag: oper.Take, V: 50}, {Tag: oper.Put, V: 4}, {Tag: oper.Take, V: 1}}
	}
	return []oper.Op{{Tag: oper.Add, V: 2}, {Tag: oper.Add, V: greatest}, {Tag: oper.Sub, V: 5}, {Tag: oper.Add, V: 11}, {Tag: oper.Sub, V: -3}}
}

// filled answers a turn of thread t all of whose fields are set, each word and
// number to one that no other has, its lists new each time. Its thread has
// three kids.
func filled(c config.Config, t int) thread.Turn {
	m := arena.Build(c)
	for i := range m.Words {
		// None of these is a word that says anything.
		m.Words[i] = 7 + 8*(1000+i)
	}
	for i := range m.Boxes {
		m.Boxes[i] = []batch.Entry{{Thread: i, Op: oper.Op{Tag: oper.Add, V: 500 + i}}}
	}
	var b []batch.Entry
	for i, op := range ops(c.Bounded) {
		b = append(b, batch.Entry{Thread: i, Op: op})
	}
	return thread.Turn{
		C: c, T: t, Now: 201, M: m,
		Th: thread.Thread{
			Phase: thread.Share, Item: c.Items - 1, Op: b[0].Op, Batch: b,
			Kids: []thread.Kid{{Thread: 2, Ahead: 1}, {Thread: 4, Ahead: 3}, {Thread: 3, Ahead: 4}},
			Held: []int{216, 217},
			Stop: 219, Node: 220, At: 1, Layer: 222, Left: 223, Width: 224, Who: 225, X: 6, Y: 227, Until: 228,
		},
		Tape: tape.Tape{L: []int{231, 232}, At: 1},
		Log:  []thread.Mark{{Thread: 241, Item: 242, Op: oper.Op{Tag: 243, V: 244}, Prior: 245, Step: 246}},
	}
}

// usual is the turn of thread 1 of the config that most tests take.
func usual() thread.Turn { return filled(configs()[1], 1) }

// copied answers a turn that shares no memory with u.
func copied(u thread.Turn) thread.Turn {
	u.M.Words = slices.Clone(u.M.Words)
	u.M.Boxes = slices.Clone(u.M.Boxes)
	for i, b := range u.M.Boxes {
		u.M.Boxes[i] = slices.Clone(b)
	}
	u.Th.Batch = slices.Clone(u.Th.Batch)
	u.Th.Kids = slices.Clone(u.Th.Kids)
	u.Th.Held = slices.Clone(u.Th.Held)
	u.Tape.L = slices.Clone(u.Tape.L)
	u.Log = slices.Clone(u.Log)
	return u
}

// changed answers a copy of u that the change was done to.
func changed(u thread.Turn, change func(u *thread.Turn)) thread.Turn {
	u = copied(u)
	change(&u)
	return u
}

// is holds a turn against the wanted one. Nil lists and lists without elements
// are alike (R6), and fmt tells them alike.
func is(t *testing.T, what string, got, want thread.Turn) {
	t.Helper()
	if fmt.Sprintf("%+v", got) != fmt.Sprintf("%+v", want) {
		t.Errorf("%s:\n got %+v\nwant %+v", what, got, want)
	}
}

// stepsTo holds a step of one of this layer's phases against the wanted turn, and
// that it leaves what it was handed.
func stepsTo(t *testing.T, what string, u, want thread.Turn) thread.Turn {
	t.Helper()
	return stepped(t, what, u, want, true)
}

func stepped(t *testing.T, what string, u, want thread.Turn, wantIs bool) thread.Turn {
	t.Helper()
	was := copied(u)
	got, ours := Step(u)
	if ours != wantIs {
		t.Errorf("%s: Step tells %t", what, ours)
	}
	is(t, what, got, want)
	if !reflect.DeepEqual(u, was) {
		t.Errorf("%s: what was handed in changed: %+v, was %+v", what, u, was)
	}
	if again, _ := Step(u); !reflect.DeepEqual(again, got) {
		t.Errorf("%s: the same again is %+v, was %+v", what, again, got)
	}
	return got
}

// settles holds Settle against the wanted turn, and that it leaves what it was
// handed.
func settles(t *testing.T, what string, u, want thread.Turn) {
	t.Helper()
	was := copied(u)
	is(t, what, Settle(u), want)
	if !reflect.DeepEqual(u, was) {
		t.Errorf("%s: what was handed in changed: %+v, was %+v", what, u, was)
	}
}

// behind answers what is in a cell of x behind the first n ops, at most all, told
// op by op.
func behind(u thread.Turn, n int) int {
	x := u.Th.X
	for i, e := range u.Th.Batch {
		if i >= n {
			break
		}
		if now, ok := oper.Apply(e.Op, x, u.C.Lo, u.C.Hi); ok {
			x = now
		}
	}
	return x
}

// The configs of the tests are ones of which something is promised.
func TestConfigsMayBe(t *testing.T) {
	for _, c := range configs() {
		if wrong := config.Check(c); wrong != api.OK {
			t.Errorf("%+v: %d", c, wrong)
		}
	}
}

// P11.1: the document's example.
func TestExample(t *testing.T) {
	u := Settle(thread.Turn{})
	if u.Th.Phase != thread.Idle || !u.Done {
		t.Errorf("with no kids: phase %d, done %t", u.Th.Phase, u.Done)
	}
}

// P11.1: At tells whether there is a kid to share with; all that is not named
// stays, be the turn done already or not.
func TestSettle(t *testing.T) {
	for _, c := range configs() {
		for kids := range 4 {
			for _, at := range []int{least, -4, -3, -2, -1, 0, 1, 2, 3, 4, 5, greatest} {
				for _, done := range []bool{false, true} {
					for _, phase := range []int{thread.Idle, thread.Fetch, thread.Share, thread.Tell, thread.Load, -1, 99} {
						u := filled(c, 0)
						u.Th.Kids, u.Th.At, u.Done, u.Th.Phase = u.Th.Kids[:kids], at, done, phase
						want := changed(u, func(u *thread.Turn) { u.Th.Phase, u.Done = thread.Idle, true })
						if at >= 0 && at < kids {
							want = changed(u, func(u *thread.Turn) { u.Th.Phase = thread.Share })
						}
						settles(t, fmt.Sprint("Settle at ", at, " of ", kids, " kids"), u, want)
					}
				}
			}
		}
	}
}

// P11.1: at the last kid there is one, and behind it none.
func TestSettleEdges(t *testing.T) {
	for _, x := range []struct {
		kids, at, phase int
		done            bool
	}{
		{0, 0, thread.Idle, true},
		{0, -1, thread.Idle, true},
		{1, 0, thread.Share, false},
		{1, 1, thread.Idle, true},
		{3, -1, thread.Idle, true},
		{3, 0, thread.Share, false},
		{3, 2, thread.Share, false},
		{3, 3, thread.Idle, true},
		{3, 4, thread.Idle, true},
	} {
		u := usual()
		u.Th.Kids, u.Th.At = u.Th.Kids[:x.kids], x.at
		got := Settle(u)
		if got.Th.Phase != x.phase || got.Done != x.done {
			t.Errorf("at %d of %d kids: phase %d, done %t", x.at, x.kids, got.Th.Phase, got.Done)
		}
	}
}

// P11.2: the phases of this layer are four; of all others the turn is as it is.
func TestPhases(t *testing.T) {
	ours := []int{thread.Wait, thread.Fetch, thread.Share, thread.Tell}
	for phase := -2; phase <= thread.Leave+2; phase++ {
		u := usual()
		u.Th.Phase = phase
		if _, got := Step(u); got != slices.Contains(ours, phase) {
			t.Errorf("phase %d: Step tells %t", phase, got)
		}
	}
	others := []int{least, -99, -1, 27, 28, 99, greatest, thread.Wait + 1<<32, thread.Tell - 1<<32}
	for phase := thread.Idle; phase <= thread.Leave; phase++ {
		if !slices.Contains(ours, phase) {
			others = append(others, phase)
		}
	}
	for _, c := range configs() {
		for _, phase := range others {
			for _, done := range []bool{false, true} {
				u := filled(c, 0)
				u.Th.Phase, u.Done = phase, done
				stepped(t, fmt.Sprint("phase ", phase), u, copied(u), false)
			}
		}
	}
}

// waiting answers the turn of thread t, which waits, with that word as its line.
func waiting(c config.Config, t, line int) thread.Turn {
	u := filled(c, t)
	u.Th.Phase = thread.Wait
	u.M.Words[arena.Line(c, t)] = line
	return u
}

// P11.2: a thread that waits goes on just when its line says told.
func TestWait(t *testing.T) {
	for _, c := range configs() {
		for who := range c.Threads {
			u := waiting(c, who, code.Told())
			stepsTo(t, "told", u, changed(u, func(u *thread.Turn) { u.Th.Phase = thread.Fetch }))
			for _, line := range []int{
				0, code.First(0), code.First(15), code.Joined(0), code.Joined(3), code.Deposited(0), code.Deposited(4),
				code.Open(0, 1), code.Open(3, 3), code.Told() - 1, code.Told() + 1, code.Told() + 8, code.Told() - 8,
				-code.Told(), code.Told() + 1<<32, code.Told() + least, 7, -1, least, greatest,
			} {
				u := waiting(c, who, line)
				stepsTo(t, fmt.Sprint("line ", line), u, copied(u))
			}
		}
	}
}

// P11.2: a thread that waits looks at its own line alone, however many kids it
// has and whatever it is at.
func TestWaitLooksAtItsOwnLine(t *testing.T) {
	for _, c := range configs() {
		for who := range c.Threads {
			u := waiting(c, who, 0)
			for at := range u.M.Words {
				if at != arena.Line(c, who) {
					u.M.Words[at] = code.Told()
				}
			}
			stepsTo(t, "all others told", u, copied(u))
		}
	}
	for _, at := range []int{least, -1, 0, 3, greatest} {
		u := waiting(configs()[0], 1, code.Told())
		u.Th.At, u.Th.Kids, u.Done = at, nil, true
		stepsTo(t, fmt.Sprint("at ", at), u, changed(u, func(u *thread.Turn) { u.Th.Phase = thread.Fetch }))
	}
}

// P11.2: what is fetched is the thread's own result; with kids it shares next, at
// the first one, without it is done.
func TestFetch(t *testing.T) {
	for _, c := range configs() {
		for who := range c.Threads {
			for _, at := range []int{least, -1, 0, 1, 3, 4, greatest} {
				for _, x := range []int{least, -1, 0, 1, code.Told(), 77, greatest} {
					u := filled(c, who)
					u.Th.Phase, u.Th.At = thread.Fetch, at
					u.M.Words[arena.Result(c, who)] = x
					stepsTo(t, fmt.Sprint("fetch ", x), u, changed(u, func(u *thread.Turn) {
						u.Th.X, u.Th.At, u.Th.Phase = x, 0, thread.Share
					}))
					u.Th.Kids = nil
					stepsTo(t, fmt.Sprint("fetch ", x, " without kids"), u, changed(u, func(u *thread.Turn) {
						u.Th.X, u.Th.At, u.Th.Phase, u.Done = x, 0, thread.Idle, true
					}))
				}
			}
		}
	}
}

// P11.2: a kid is left what the ops ahead of its own make of the cell.
func TestShare(t *testing.T) {
	for _, c := range configs() {
		if c.Threads < 5 {
			continue
		}
		for at := range 3 {
			for _, done := range []bool{false, true} {
				u := filled(c, 0)
				u.Th.At, u.Done = at, done
				k := u.Th.Kids[at]
				stepsTo(t, fmt.Sprint("share at ", at), u, changed(u, func(u *thread.Turn) {
					u.M.Words[arena.Result(c, k.Thread)] = behind(*u, k.Ahead)
					u.Th.Phase = thread.Tell
				}))
			}
		}
	}
}

// P11.2: results that are told by hand, of an unbounded and of a bounded cell,
// with an Ahead of none, some and all entries, and of more and fewer than there
// may be.
func TestShareNumbers(t *testing.T) {
	plain := []oper.Op{{Tag: oper.Add, V: 2}, {Tag: oper.Sub, V: 10}, {Tag: oper.Add, V: 100}}
	bounded := []oper.Op{{Tag: oper.Put, V: 2}, {Tag: oper.Put, V: 9}, {Tag: oper.Take, V: 50}}
	for _, x := range []struct {
		bounded     bool
		ahead, want int
	}{
		{false, least, 5}, {false, -1, 5}, {false, 0, 5}, {false, 1, 7}, {false, 2, -3}, {false, 3, 97}, {false, 4, 97}, {false, greatest, 97},
		// Put 9 would be above 12, and is refused; Take 50 takes what there is.
		{true, least, 5}, {true, -1, 5}, {true, 0, 5}, {true, 1, 7}, {true, 2, 7}, {true, 3, 1}, {true, 4, 1}, {true, greatest, 1},
	} {
		c, ops := config.Config{Threads: 3, Items: 1, Backend: config.Cell, Width: 1}, plain
		if x.bounded {
			c.Bounded, c.Lo, c.Hi, c.Init, ops = true, 1, 12, 1, bounded
		}
		u := thread.Turn{C: c, T: 0, M: arena.Build(c)}
		u.Th = thread.Thread{Phase: thread.Share, X: 5, Kids: []thread.Kid{{Thread: 2, Ahead: x.ahead}}}
		for i, op := range ops {
			u.Th.Batch = append(u.Th.Batch, batch.Entry{Thread: i, Op: op})
		}
		stepsTo(t, fmt.Sprintf("%+v", x), u, changed(u, func(u *thread.Turn) {
			// A cell, and a line and a result of each thread.
			u.M.Words[6] = x.want
			u.Th.Phase = thread.Tell
		}))
	}
}

// P11.2: without a batch a kid is left the thread's own X.
func TestShareWithoutBatch(t *testing.T) {
	for _, ahead := range []int{least, 0, 1, greatest} {
		for _, x := range []int{least, -1, 0, 6, greatest} {
			u := usual()
			u.Th.Batch, u.Th.At, u.Th.X = nil, 0, x
			u.Th.Kids[0].Ahead = ahead
			stepsTo(t, "no batch", u, changed(u, func(u *thread.Turn) {
				u.M.Words[arena.Result(u.C, 2)] = x
				u.Th.Phase = thread.Tell
			}))
		}
	}
}

// P11.2: a kid that is told has Told as its line; behind the last one the thread
// is done, and else it shares on.
func TestTell(t *testing.T) {
	for _, c := range configs() {
		if c.Threads < 5 {
			continue
		}
		for at := range 3 {
			for _, done := range []bool{false, true} {
				u := filled(c, 0)
				u.Th.Phase, u.Th.At, u.Done = thread.Tell, at, done
				stepsTo(t, fmt.Sprint("tell at ", at), u, changed(u, func(u *thread.Turn) {
					u.M.Words[arena.Line(c, u.Th.Kids[at].Thread)] = code.Told()
					u.Th.At, u.Th.Phase = at+1, thread.Share
					if at == 2 {
						u.Th.Phase, u.Done = thread.Idle, true
					}
				}))
			}
		}
	}
}

// P11.2: where there is no kid at that place, nothing is done, be the turn done
// or not.
func TestNoKid(t *testing.T) {
	for _, phase := range []int{thread.Share, thread.Tell} {
		for kids := range 4 {
			for _, at := range []int{least, -1, kids, kids + 1, 99, greatest} {
				u := usual()
				u.Th.Phase, u.Th.At, u.Th.Kids = phase, at, u.Th.Kids[:kids]
				stepsTo(t, fmt.Sprint("phase ", phase, " at ", at, " of ", kids), u, copied(u))
			}
		}
	}
}

// P11.2: a kid that is no thread of the config has neither result nor line, and
// nothing is done.
func TestKidThatIsNoThread(t *testing.T) {
	for _, c := range configs() {
		for _, phase := range []int{thread.Share, thread.Tell} {
			for _, who := range []int{least, -c.Threads, -2, -1, c.Threads, c.Threads + 1, 99, 1 << 62, greatest} {
				u := filled(c, 0)
				u.Th.Phase = phase
				u.Th.Kids[1].Thread = who
				stepsTo(t, fmt.Sprint("kid ", who, " of ", c.Threads), u, copied(u))
			}
		}
	}
}

// P11.2: the first and the last thread may be kids, and a thread its own one.
func TestKidAtTheEdge(t *testing.T) {
	for _, c := range configs() {
		for _, who := range []int{0, c.Threads - 1} {
			u := filled(c, 0)
			u.Th.Kids[1].Thread = who
			u = stepsTo(t, "share", u, changed(u, func(u *thread.Turn) {
				u.M.Words[arena.Result(c, who)] = behind(*u, 3)
				u.Th.Phase = thread.Tell
			}))
			stepsTo(t, "tell", u, changed(u, func(u *thread.Turn) {
				u.M.Words[arena.Line(c, who)] = code.Told()
				u.Th.At, u.Th.Phase = 2, thread.Share
			}))
		}
	}
}

// P11.2: where the word is not there, for the memory is too small or the thread
// is none of the config, nothing is done.
func TestNoWord(t *testing.T) {
	for _, phase := range []int{thread.Wait, thread.Fetch, thread.Share, thread.Tell} {
		u := usual()
		u.Th.Phase, u.M = phase, wmem.Mem{}
		stepsTo(t, fmt.Sprint("no memory, phase ", phase), u, copied(u))
		if phase == thread.Share || phase == thread.Tell {
			continue
		}
		for _, who := range []int{least, -1, 5, greatest} {
			u := usual()
			u.Th.Phase, u.T = phase, who
			stepsTo(t, fmt.Sprint("thread ", who, ", phase ", phase), u, copied(u))
		}
	}
}

// P11.3: a thread with several kids tells each its result ahead of its line, in
// order, and is done behind the last one; no other word or box changes.
func TestToldInOrder(t *testing.T) {
	for _, c := range configs() {
		if c.Threads < 5 {
			continue
		}
		u := filled(c, 1)
		u.Th.Phase, u.Th.At = thread.Wait, 9
		u.M.Words[arena.Line(c, 1)] = code.Told()
		u.M.Words[arena.Result(c, 1)] = 8
		first := copied(u)
		u, _ = Step(u)
		u, _ = Step(u)
		want := changed(first, func(u *thread.Turn) { u.Th.X, u.Th.At, u.Th.Phase = 8, 0, thread.Share })
		is(t, "fetched", u, want)
		for at, k := range first.Th.Kids {
			if u.Done {
				t.Errorf("done ahead of kid %d", at)
			}
			want.M.Words[arena.Result(c, k.Thread)] = behind(want, k.Ahead)
			want.Th.Phase = thread.Tell
			u = stepsTo(t, fmt.Sprint("result of kid ", at), u, want)
			want.M.Words[arena.Line(c, k.Thread)] = code.Told()
			want.Th.At, want.Th.Phase = at+1, thread.Share
			if at == 2 {
				want.Th.Phase, want.Done = thread.Idle, true
			}
			u = stepsTo(t, fmt.Sprint("line of kid ", at), u, want)
		}
		if thread.Busy(u.Th) || !u.Done {
			t.Errorf("all are told, and the thread is not done: %+v", u.Th)
		}
		stepped(t, "all told", u, copied(u), false)
	}
}

// P11.3: what is told goes on from kid to kid: each of a chain of threads is told
// what is ahead of its own op, and all are done.
func TestChain(t *testing.T) {
	c := config.Config{Threads: 4, Items: 1, Backend: config.Tree, Depth: 2, Width: 1}
	m := arena.Build(c)
	m.Words[arena.Line(c, 0)], m.Words[arena.Result(c, 0)] = code.Told(), 100
	var chain []batch.Entry
	for i := range 4 {
		chain = append(chain, batch.Entry{Thread: i, Op: oper.Op{Tag: oper.Add, V: 1 + i}})
	}
	for who, want := range []int{100, 101, 103, 106} {
		u := thread.Turn{C: c, T: who, M: m}
		u.Th = thread.Thread{Phase: thread.Wait, Batch: chain[who:]}
		if who < 3 {
			u.Th.Kids = []thread.Kid{{Thread: who + 1, Ahead: 1}}
		}
		for n := 0; !u.Done && n < 9; n++ {
			u, _ = Step(u)
		}
		if !u.Done || u.Th.X != want {
			t.Errorf("thread %d: done %t, told %d, want %d", who, u.Done, u.Th.X, want)
		}
		m = u.M
	}
}

// R1: at any numbers no call panics.
func TestAnyNumbers(t *testing.T) {
	numbers := []int{least, -1 << 32, -1, 0, 1, 3, 1 << 32, greatest}
	for _, a := range numbers {
		for _, b := range numbers {
			for phase := -1; phase <= 27; phase++ {
				u := usual()
				u.C.Threads, u.C.Items, u.C.Depth, u.C.Layers, u.C.Width = a, b, a, b, a
				u.T, u.Th.At, u.Th.Item = b, 0, a
				u.Th.Phase, u.Th.Kids[0] = phase, thread.Kid{Thread: b, Ahead: a}
				Step(u)
				Settle(u)
				Step(thread.Turn{T: a, Th: thread.Thread{Phase: phase, At: b}})
			}
		}
	}
}
