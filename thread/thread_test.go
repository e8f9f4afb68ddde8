package thread

import (
	"fmt"
	"math"
	"reflect"
	"slices"
	"testing"

	"millstream/api"
	"millstream/batch"
	"millstream/config"
	"millstream/oper"
)

const (
	least    = math.MinInt
	greatest = math.MaxInt
)

// edges are numbers near to where ticks, waits and ints end.
func edges() []int {
	return []int{
		least, least + 1, least + 999, least + 1000, least + 1001, -1 << 32, -1001, -1000, -999, -2, -1,
		0, 1, 2, 7, 999, 1000, 1001, 1 << 32, greatest - 1001, greatest - 1000, greatest - 999, greatest - 1, greatest,
	}
}

// tree is a config that may be.
func tree(depth, wait int) config.Config {
	return config.Config{Threads: 16, Items: 4, Backend: config.Tree, Depth: depth, Width: 4, Wait: wait}
}

func add(v int) oper.Op { return oper.Op{Tag: oper.Add, V: v} }

// full is a thread all of whose fields are set, each to numbers that no other
// one has; its lists are new each time.
func full() Thread {
	return Thread{
		Phase: Share, Item: 101, Op: oper.Op{Tag: 102, V: 103},
		Batch: []batch.Entry{{Thread: 104, Op: add(105)}, {Thread: 106, Op: add(107)}, {Thread: 108, Op: add(109)}},
		Kids:  []Kid{{110, 111}, {112, 113}, {114, 115}},
		Held:  []int{116, 117, 118},
		Stop:  119, Node: 120, At: 121, Layer: 122, Left: 123, Width: 124, Who: 125, X: 126, Y: 127, Until: 128,
	}
}

// is holds a thread against the wanted one, field by field, without Same.
func is(t *testing.T, what string, got, want Thread) {
	t.Helper()
	g, w := reflect.ValueOf(got), reflect.ValueOf(want)
	for i := range g.NumField() {
		name := g.Type().Field(i).Name
		a, b := g.Field(i), w.Field(i)
		// Nil lists and lists without elements are alike (R6).
		none := a.Kind() == reflect.Slice && a.Len() == 0 && b.Len() == 0
		if !none && !reflect.DeepEqual(a.Interface(), b.Interface()) {
			t.Errorf("%s: %s is %v, want %v", what, name, a, b)
		}
	}
}

// sames holds Same of two threads, in both orders, against what is wanted.
func sames(t *testing.T, what string, a, b Thread, want bool) {
	t.Helper()
	if Same(a, b) != want {
		t.Errorf("%s: Same is not %t of %+v and %+v", what, want, a, b)
	}
	if Same(b, a) != want {
		t.Errorf("%s, the other way round: Same is not %t of %+v and %+v", what, want, b, a)
	}
}

// lates holds Late at a tick of a thread that waits until another one.
func lates(t *testing.T, until, now int, want bool) {
	t.Helper()
	if got := Late(Turn{Now: now, Th: Thread{Until: until}}); got != want {
		t.Errorf("Late at %d, until %d: %t", now, until, got)
	}
}

// phases answers all phases, in the document's order.
func phases() []int {
	return []int{
		Idle, Clear, Load, Cas, Climb, Take, Join, Gather, Close, Collect, Free, Publish, Deposit, Wait,
		Fetch, Share, Tell, Show, Opening, Swap, Shut, Capture, Absorb, Spin, Reopen, Try, Leave,
	}
}

// The phases have the document's numbers.
func TestPhases(t *testing.T) {
	if len(phases()) != 27 {
		t.Errorf("there are %d phases", len(phases()))
	}
	for want, phase := range phases() {
		if phase != want {
			t.Errorf("the phase at %d is %d", want, phase)
		}
	}
}

// The types have the document's fields, by their names.
func TestTypes(t *testing.T) {
	for _, x := range []struct {
		of   any
		want string
	}{
		{Kid{}, "Thread int, Ahead int"},
		{Thread{}, "Phase int, Item int, Op oper.Op, Batch []batch.Entry, Kids []thread.Kid, Held []int, " +
			"Stop int, Node int, At int, Layer int, Left int, Width int, Who int, X int, Y int, Until int"},
		{Mark{}, "Thread int, Item int, Op oper.Op, Prior int, Step int"},
		{Turn{}, "C config.Config, T int, Now int, M wmem.Mem, Th thread.Thread, Tape tape.Tape, Log []thread.Mark, Done bool"},
	} {
		got := ""
		for i, of := 0, reflect.TypeOf(x.of); i < of.NumField(); i++ {
			if i > 0 {
				got += ", "
			}
			got += of.Field(i).Name + " " + of.Field(i).Type.String()
		}
		if got != x.want {
			t.Errorf("%T has %s, want %s", x.of, got, x.want)
		}
	}
}

// The configs of the tests are ones of which something is promised, and go to
// the limits that the document names.
func TestConfigsMayBe(t *testing.T) {
	if api.MaxDepth != 4 || api.MaxWait != 1000 || api.MaxThreads != 16 {
		t.Error("the limits are others")
	}
	for depth := range 5 {
		for _, wait := range []int{0, 1, 1000} {
			if wrong := config.Check(tree(depth, wait)); wrong != api.OK {
				t.Errorf("depth %d, wait %d: %d", depth, wait, wrong)
			}
		}
	}
}

// P10.1: the document's example.
func TestExample(t *testing.T) {
	if Busy(New()) {
		t.Error("a new thread is busy")
	}
}

// P10.1: of a new thread all is zero, or none, but the width.
func TestNew(t *testing.T) {
	is(t, "New", New(), Thread{Width: 1})
	sames(t, "New", New(), Thread{Width: 1}, true)
	sames(t, "New, and zero", New(), Thread{}, false)
	sames(t, "New, and another one", New(), New(), true)
}

// P10.1: a thread is idle at Idle alone, whatever else it has.
func TestBusy(t *testing.T) {
	for _, phase := range append(append(edges(), phases()...), 27, 28) {
		want := phase != 0
		th := full()
		th.Phase = phase
		if Busy(th) != want || Busy(Thread{Phase: phase}) != want {
			t.Errorf("Busy in the phase %d is not %t", phase, want)
		}
	}
}

// P10.1: a thread is the same as itself, and as one that was made alike.
func TestSameAsItself(t *testing.T) {
	for _, th := range []Thread{full(), New(), {}, Begin(tree(3, 5), 5, full(), 1, add(9), 10)} {
		sames(t, "itself", th, th, true)
	}
	sames(t, "made alike", full(), full(), true)
	sames(t, "zero", Thread{}, Thread{}, true)
	sames(t, "full, and zero", full(), Thread{}, false)
}

// turned calls visit with a thread like th for each number that th has, one
// within another one's fields and lists too, of which just that number is
// another one.
func turned(th Thread, by int, visit func(what string, other Thread)) {
	numbers := 0
	eachNumber(reflect.ValueOf(&th).Elem(), "", func(string, reflect.Value) { numbers++ })
	for at := range numbers {
		other := th
		other.Batch, other.Kids, other.Held = slices.Clone(th.Batch), slices.Clone(th.Kids), slices.Clone(th.Held)
		i, what := 0, ""
		eachNumber(reflect.ValueOf(&other).Elem(), "", func(name string, n reflect.Value) {
			if i == at {
				what = name
				n.SetInt(int64(int(n.Int()) + by))
			}
			i++
		})
		visit(what, other)
	}
}

// eachNumber calls visit with all numbers of a value, and where they stand.
func eachNumber(v reflect.Value, name string, visit func(string, reflect.Value)) {
	switch v.Kind() {
	case reflect.Struct:
		for i := range v.NumField() {
			eachNumber(v.Field(i), name+"."+v.Type().Field(i).Name, visit)
		}
	case reflect.Slice:
		for i := range v.Len() {
			eachNumber(v.Index(i), fmt.Sprint(name, "[", i, "]"), visit)
		}
	default:
		visit(name, v)
	}
}

// P10.1: threads of which one number alone is another one, by little and by
// much; in lists that is the first, the last, or one between.
func TestSameOfEachNumber(t *testing.T) {
	for _, by := range []int{1, -1, 2, 256, 1 << 32, least} {
		many := 0
		turned(full(), by, func(what string, other Thread) {
			many++
			sames(t, what, full(), other, false)
		})
		// 12 numbers, 2 of the op, 9 of entries, 6 of kids, 3 of nodes.
		if many != 32 {
			t.Errorf("%d numbers were turned", many)
		}
		many = 0
		turned(New(), by, func(what string, other Thread) {
			many++
			sames(t, what+" of a new one", New(), other, false)
		})
		if many != 14 {
			t.Errorf("%d numbers of a new thread were turned", many)
		}
	}
}

// P10.1: a number that stands in another field is another one: two numbers are
// turned against each other, so that the thread has just the same numbers.
func TestSameOfNumbersThatAreSwapped(t *testing.T) {
	numbers := 0
	th := full()
	eachNumber(reflect.ValueOf(&th).Elem(), "", func(string, reflect.Value) { numbers++ })
	for a := range numbers {
		for b := range a {
			other := full()
			var l []reflect.Value
			eachNumber(reflect.ValueOf(&other).Elem(), "", func(_ string, n reflect.Value) { l = append(l, n) })
			was := l[a].Int()
			if was == l[b].Int() {
				continue
			}
			l[a].SetInt(l[b].Int())
			l[b].SetInt(was)
			sames(t, fmt.Sprint(a, " and ", b), full(), other, false)
		}
	}
}

// P10.1: lists of unlike lengths, at their front or at their end, down to none.
func TestSameOfUnlikeLengths(t *testing.T) {
	for short := range 3 {
		for what, cut := range map[string]func(*Thread){
			"the first of Batch": func(th *Thread) { th.Batch = th.Batch[:short] },
			"the first of Kids":  func(th *Thread) { th.Kids = th.Kids[:short] },
			"the first of Held":  func(th *Thread) { th.Held = th.Held[:short] },
			"the last of Batch":  func(th *Thread) { th.Batch = th.Batch[3-short:] },
			"the last of Kids":   func(th *Thread) { th.Kids = th.Kids[3-short:] },
			"the last of Held":   func(th *Thread) { th.Held = th.Held[3-short:] },
		} {
			other := full()
			cut(&other)
			sames(t, fmt.Sprint(short, " of ", what), full(), other, false)
		}
	}
}

// P10.1: elements that are zero count, too.
func TestSameOfZeroElements(t *testing.T) {
	for what, other := range map[string]Thread{
		"an entry": {Batch: make([]batch.Entry, 1)},
		"a kid":    {Kids: make([]Kid, 1)},
		"a node":   {Held: make([]int, 1)},
		"two":      {Held: make([]int, 2)},
	} {
		sames(t, what, other, Thread{}, false)
		sames(t, what, other, Thread{Batch: []batch.Entry{}, Kids: []Kid{}, Held: []int{}}, false)
	}
	sames(t, "one and two", Thread{Held: make([]int, 1)}, Thread{Held: make([]int, 2)}, false)
	sames(t, "two and two", Thread{Kids: make([]Kid, 2)}, Thread{Kids: make([]Kid, 2)}, true)
}

// P10.1: the same elements in another order are not the same.
func TestSameOfAnotherOrder(t *testing.T) {
	batches, kids, held := full(), full(), full()
	slices.Reverse(batches.Batch)
	slices.Reverse(kids.Kids)
	slices.Reverse(held.Held)
	for _, other := range []Thread{batches, kids, held} {
		sames(t, "reversed", full(), other, false)
		sames(t, "itself", other, other, true)
	}
}

// P10.1, R6: nil lists and lists without elements are alike, each of them alone.
func TestSameOfNoElements(t *testing.T) {
	sames(t, "Batch", Thread{Batch: []batch.Entry{}}, Thread{}, true)
	sames(t, "Kids", Thread{Kids: []Kid{}}, Thread{}, true)
	sames(t, "Held", Thread{Held: []int{}}, Thread{}, true)
	sames(t, "all", Thread{Batch: []batch.Entry{}, Kids: []Kid{}, Held: []int{}}, Thread{}, true)
	// What stands in the room behind the end is not there.
	th := full()
	th.Batch, th.Kids, th.Held = th.Batch[:0], th.Kids[:0], th.Held[:0]
	none := full()
	none.Batch, none.Kids, none.Held = nil, nil, nil
	sames(t, "cut", th, none, true)
}

// P10.1: what lists have behind their ends, and whose memory they are, says
// nothing.
func TestSameOfRoomBehind(t *testing.T) {
	th, long := full(), full()
	long.Batch = append(long.Batch, batch.Entry{Thread: 1})[:3]
	long.Kids = append(long.Kids, Kid{1, 2})[:3]
	long.Held = append(make([]int, 0, 90), long.Held...)
	sames(t, "with room", th, long, true)
	shared := full()
	shared.Held = long.Held[:2]
	sames(t, "shared memory, another length", long, shared, false)
}

// P10.2: all that Begin answers, of a thread all of whose fields are set.
func TestBegin(t *testing.T) {
	is(t, "Begin", Begin(tree(3, 5), 5, full(), 1, add(9), 10), Thread{
		Phase: 1, Item: 1, Op: add(9),
		Batch: []batch.Entry{{Thread: 5, Op: add(9)}},
		Node:  6, Width: 124, Until: 15,
	})
	is(t, "Begin of a new one", Begin(tree(0, 0), 0, New(), 0, add(0), 0), Thread{
		Phase: 1, Op: add(0), Batch: []batch.Entry{{Op: add(0)}}, Width: 1,
	})
	is(t, "Begin of zero", Begin(tree(1, 1), 3, Thread{}, 3, oper.Op{}, 1), Thread{
		Phase: 1, Item: 3, Batch: []batch.Entry{{Thread: 3}}, Node: 1, Until: 2,
	})
}

// P10.2: what the thread had ahead of it says nothing, but its width.
func TestBeginLooksAtNothingButWidth(t *testing.T) {
	for _, by := range []int{1, -1, 1 << 40} {
		want := Begin(tree(2, 7), 3, full(), 2, add(4), 20)
		turned(full(), by, func(what string, other Thread) {
			wanted := want
			if what == ".Width" {
				wanted.Width += by
			}
			is(t, what, Begin(tree(2, 7), 3, other, 2, add(4), 20), wanted)
		})
	}
}

// P10.2: widths that may be, and others.
func TestBeginWidth(t *testing.T) {
	for _, width := range append(edges(), 3, 4, 8, 9) {
		if got := Begin(tree(2, 0), 1, Thread{Width: width}, 0, add(1), 0).Width; got != width {
			t.Errorf("of the width %d: %d", width, got)
		}
	}
}

// leaves answers the leaves of the threads 0 to 15, of each depth, written out.
func leaves() [][]int {
	return [][]int{
		{0, 0, 0, 0, 0, 0, 0, 0, 0, 0, 0, 0, 0, 0, 0, 0},
		{1, 1, 1, 1, 1, 1, 1, 1, 1, 1, 1, 1, 1, 1, 1, 1},
		{2, 2, 3, 3, 2, 2, 3, 3, 2, 2, 3, 3, 2, 2, 3, 3},
		{4, 4, 5, 5, 6, 6, 7, 7, 4, 4, 5, 5, 6, 6, 7, 7},
		{8, 8, 9, 9, 10, 10, 11, 11, 12, 12, 13, 13, 14, 14, 15, 15},
	}
}

// P10.2: each depth and each thread, whatever the backend is.
func TestBeginNode(t *testing.T) {
	for depth, row := range leaves() {
		for thread, leaf := range row {
			for backend := config.Cell; backend <= config.Funnel; backend++ {
				c := tree(depth, 3)
				c.Backend = backend
				is(t, fmt.Sprint("depth ", depth, ", thread ", thread), Begin(c, thread, full(), 2, add(8), 30), Thread{
					Phase: 1, Item: 2, Op: add(8),
					Batch: []batch.Entry{{Thread: thread, Op: add(8)}},
					Node:  leaf, Width: 124, Until: 33,
				})
			}
		}
	}
}

// P10.2: any item and any op, those that may not be too.
func TestBeginItemAndOp(t *testing.T) {
	for _, n := range edges() {
		for _, tag := range []int{least, -1, 0, 1, 2, 3, 4, 5, 6, 7, 8, 9, 10, greatest} {
			op := oper.Op{Tag: tag, V: n}
			is(t, "any op", Begin(tree(4, 0), 15, full(), n, op, 5), Thread{
				Phase: 1, Item: n, Op: op, Batch: []batch.Entry{{Thread: 15, Op: op}}, Node: 15, Width: 124,
			})
		}
	}
}

// P10.2: without a wait there is no tick at which it is over.
func TestBeginWithoutWait(t *testing.T) {
	for _, now := range edges() {
		if got := Begin(tree(2, 0), 1, full(), 0, add(1), now).Until; got != 0 {
			t.Errorf("at %d: until %d", now, got)
		}
	}
}

// P10.2, R8: waits of one tick, of as many as may be, and of some between, at
// ticks 0, below 0, and at both ends of what an int holds.
func TestBeginWait(t *testing.T) {
	for _, x := range []struct{ now, wait, want int }{
		{0, 1, 1}, {0, 7, 7}, {0, 1000, 1000},
		{10, 1, 11}, {10, 7, 17}, {10, 1000, 1010},
		{-1, 1, 0}, {-1, 2, 1}, {-1, 1000, 999},
		{-7, 1, -6}, {-7, 7, 0}, {-1000, 1000, 0}, {-1001, 1000, -1}, {-999, 1000, 1},
		{least, 1, least + 1}, {least, 1000, least + 1000},
		{greatest, 1, least}, {greatest, 2, least + 1}, {greatest, 1000, least + 999},
		{greatest - 1, 1, greatest}, {greatest - 1, 2, least},
		{greatest - 1000, 1000, greatest}, {greatest - 999, 1000, least},
	} {
		c := tree(2, x.wait)
		if got := Begin(c, 1, full(), 0, add(1), x.now).Until; got != x.want {
			t.Errorf("at %d, wait %d: until %d, want %d", x.now, x.wait, got, x.want)
		}
	}
}

// R4: what is handed in is not changed.
func TestNothingHandedInChanges(t *testing.T) {
	th := full()
	Begin(tree(3, 5), 5, th, 1, add(9), 10)
	is(t, "behind Begin", th, full())
	a, b := full(), full()
	Same(a, b)
	Busy(a)
	is(t, "the first one, behind Same", a, full())
	is(t, "the second one, behind Same", b, full())
	u := Turn{Now: 200, Th: full(), Log: []Mark{{Thread: 1}}}
	Late(u)
	if u.Now != 200 || len(u.Log) != 1 || u.Log[0] != (Mark{Thread: 1}) {
		t.Errorf("the turn is %+v now", u)
	}
	is(t, "behind Late", u.Th, full())
}

// Lists that are answered are new: who writes into one changes no other one.
func TestAnswersAreNew(t *testing.T) {
	th := full()
	a := Begin(tree(3, 5), 5, th, 1, add(9), 10)
	b := Begin(tree(3, 5), 5, th, 1, add(9), 10)
	a.Batch[0] = batch.Entry{Thread: 77}
	_ = append(a.Batch, batch.Entry{Thread: 78})
	_, _ = append(a.Kids, Kid{7, 7}), append(a.Held, 7)
	is(t, "what was handed in", th, full())
	if want := (batch.Entry{Thread: 5, Op: add(9)}); b.Batch[0] != want {
		t.Errorf("the other one's entry is %v now", b.Batch[0])
	}
}

// P10.3: without a tick to wait for, and with one that is not above 0, a thread
// is never late.
func TestNeverLate(t *testing.T) {
	for _, until := range []int{0, -1, -2, -1000, least + 1, least} {
		for _, now := range append(edges(), until) {
			lates(t, until, now, false)
		}
	}
}

// P10.3: ahead of its tick a thread is not late; at it, and behind it, it is.
func TestLate(t *testing.T) {
	for _, until := range []int{1, 2, 5, 1000, 1 << 32, greatest - 1} {
		for _, x := range []struct {
			now  int
			want bool
		}{
			{until - 1, false}, {until, true}, {until + 1, true},
			{0, false}, {-until, false}, {least, false}, {greatest, true},
		} {
			lates(t, until, x.now, x.want)
		}
	}
	lates(t, greatest, greatest-1, false)
	lates(t, greatest, greatest, true)
	lates(t, greatest, least, false)
	lates(t, 5, 4, false)
	lates(t, 5, 5, true)
	lates(t, 5, 6, true)
}

// P10.3: nothing else of a turn says whether it is late.
func TestLateLooksAtNothingElse(t *testing.T) {
	for _, now := range []int{127, 128, 129} {
		u := Turn{C: tree(2, 1000), T: 300, Now: now, Th: full(), Log: make([]Mark, 2), Done: true}
		if Late(u) != (now >= 128) {
			t.Errorf("Late at %d is not %t", now, now >= 128)
		}
		turned(full(), 1000, func(what string, other Thread) {
			u.Th = other
			if what != ".Until" && Late(u) != (now >= 128) {
				t.Errorf("Late at %d, with another %s, is not %t", now, what, now >= 128)
			}
		})
	}
	// An idle one, without a wait in its config, is late by its tick alone.
	if !Late(Turn{C: tree(0, 0), Now: 3, Th: Thread{Until: 3}}) || Late(Turn{C: tree(0, 1), Now: 3, Th: New()}) {
		t.Error("Late looks at more than the tick")
	}
}

// P10.4: what begins is busy, and not late at the tick at which it begins.
func TestBeginsBusyAndNotLate(t *testing.T) {
	for _, wait := range []int{0, 1, 2, 7, 999, 1000} {
		for _, now := range edges() {
			for _, old := range []Thread{full(), New(), {}} {
				c := tree(3, wait)
				th := Begin(c, 4, old, 1, add(2), now)
				if !Busy(th) || Late(Turn{C: c, T: 4, Now: now, Th: th}) {
					t.Errorf("at %d, wait %d: %+v is idle, or late", now, wait, th)
				}
			}
		}
	}
}

// P10.4: from its begin up to its last tick it is not late; from there on it is.
func TestLateFromTheLastTickOn(t *testing.T) {
	for _, wait := range []int{1, 2, 7, 1000} {
		for _, now := range []int{0, 1, 10, 1 << 40, greatest - 2*wait} {
			c := tree(3, wait)
			th := Begin(c, 4, full(), 1, add(2), now)
			for passed := range 2 * wait {
				late := Late(Turn{C: c, T: 4, Now: now + passed, Th: th})
				if !Busy(th) || late != (passed >= wait) {
					t.Errorf("wait %d, %d ticks behind %d: late is %t", wait, passed, now, late)
				}
			}
		}
	}
}

// P10.4: what begins below tick 0 is late once its tick is above 0, and never if
// it is not.
func TestBeginsBelowNothing(t *testing.T) {
	for _, wait := range []int{1, 7, 1000} {
		for ahead := 1; ahead <= wait+3; ahead++ {
			c := tree(1, wait)
			th := Begin(c, 0, New(), 0, add(2), -ahead)
			for now := -ahead; now <= 10; now++ {
				want := ahead < wait && now >= wait-ahead
				if got := Late(Turn{C: c, Now: now, Th: th}); got != want {
					t.Errorf("begun at %d, wait %d: late at %d is %t", -ahead, wait, now, got)
				}
			}
		}
	}
}

// P10.4: what begins without a wait is never late.
func TestNoWaitIsNeverLate(t *testing.T) {
	for _, begun := range edges() {
		th := Begin(tree(2, 0), 1, full(), 1, add(2), begun)
		for _, now := range edges() {
			if !Busy(th) || Late(Turn{Now: now, Th: th}) {
				t.Errorf("begun at %d: idle, or late at %d", begun, now)
			}
		}
	}
}

// R5: the same is answered again, also if something else was asked between.
func TestSameAgain(t *testing.T) {
	for thread := range 16 {
		was := Begin(tree(4, 9), thread, full(), thread, add(thread), thread)
		Begin(tree(1, 3), 15-thread, New(), 2, add(-1), 99)
		New()
		is(t, "again", Begin(tree(4, 9), thread, full(), thread, add(thread), thread), was)
	}
}

// Of configs that may not be, and of threads that there are not, nothing is
// promised; yet all calls end there, and none panics.
func TestAnyNumbers(t *testing.T) {
	for _, a := range edges() {
		for _, b := range edges() {
			c := config.Config{Threads: a, Items: b, Backend: a, Depth: a, Layers: b, Width: b, Spin: a, Wait: b}
			th := Begin(c, b, Thread{Phase: a, Width: b}, a, oper.Op{Tag: a, V: b}, a)
			Busy(th)
			Late(Turn{C: c, T: a, Now: b, Th: th})
			Same(th, Thread{Phase: b, X: a})
		}
	}
}
