package collide

import (
	"fmt"
	"reflect"
	"slices"
	"strconv"
	"testing"

	"millstream/api"
	"millstream/arena"
	"millstream/batch"
	"millstream/code"
	"millstream/commit"
	"millstream/config"
	"millstream/oper"
	"millstream/share"
	"millstream/tape"
	"millstream/thread"
	"millstream/wmem"
)

// crew is threads that go through the funnels of one memory, and end their ops.
type crew struct {
	m     wmem.Mem
	turns []thread.Turn
}

// begun answers a turn of a thread of that width that began that op, and shows it.
func begun(c config.Config, who, item, width int, op oper.Op) thread.Turn {
	u := thread.Turn{C: c, T: who}
	u.Th = thread.Begin(c, who, thread.Thread{Width: width}, item, op, 0)
	u.Th.Phase, u.Th.Layer = thread.Show, 1
	return u
}

// bit answers an op that adds what no other thread's op adds.
func bit(who int) oper.Op { return oper.Op{Tag: oper.Add, V: 1 << who} }

// muster answers threads of that config, as wide as it is, that begin at these
// items.
func muster(c config.Config, items ...int) crew {
	w := crew{m: arena.Build(c)}
	for who, item := range items {
		w.turns = append(w.turns, begun(c, who, item, c.Width, bit(who)))
	}
	return w
}

// behind answers the crew behind a step of that thread at that tick, with that
// draw, by this layer or one of those that it leaves the thread to.
func (w crew) behind(who, now, draw int) crew {
	u := w.turns[who]
	u.M, u.Now, u.Log, u.Done = w.m, now, nil, false
	u.Tape = tape.Tape{L: []int{draw}}
	for _, step := range []func(thread.Turn) (thread.Turn, bool){share.Step, commit.Step, Step} {
		v, taken := step(u)
		if taken {
			u = v
			break
		}
	}
	w.m, w.turns = u.M, slices.Clone(w.turns)
	w.turns[who] = u
	return w
}

// alone answers the crew behind so many picks of that thread, all of which draw 0.
func (w crew) alone(who, picks int) crew {
	for range picks {
		w = w.behind(who, 0, 0)
	}
	return w
}

// told answers the crew as text: two that have the same go on alike.
func (w crew) told() string {
	var b []byte
	put := func(l ...int) {
		for _, n := range l {
			b = append(strconv.AppendInt(b, int64(n), 10), ' ')
		}
		b = append(b, ';')
	}
	whose := func(l []batch.Entry) {
		// Each thread has one op, so the rest of an entry says nothing more.
		for _, e := range l {
			put(e.Thread)
		}
		put()
	}
	put(w.m.Words...)
	for _, l := range w.m.Boxes {
		whose(l)
	}
	for _, u := range w.turns {
		put(u.Th.Phase, u.Th.Layer, u.Th.Left, u.Th.Width, u.Th.Who, u.Th.X, u.Th.Y, u.Th.At)
		for _, k := range u.Th.Kids {
			put(k.Thread, k.Ahead)
		}
		whose(u.Th.Batch)
	}
	return string(b)
}

// line answers the word of that thread's line.
func (w crew) line(who int) int { return w.m.Words[arena.Line(w.turns[who].C, who)] }

// isOpen tells whether another thread may capture that one.
func (w crew) isOpen(who int) bool { return w.line(who) == ours(w.turns[who]) }

// mayBeOpen tells whether a thread in that phase was opened, and did not see yet
// that it is not any more.
func mayBeOpen(phase int) bool {
	return slices.Contains([]int{thread.Swap, thread.Shut, thread.Spin, thread.Leave}, phase)
}

// onItsOwn tells whether that thread goes to the cell by itself, as it seems.
func (w crew) onItsOwn(who int) bool {
	switch phase := w.turns[who].Th.Phase; phase {
	case thread.Show, thread.Opening, thread.Capture, thread.Absorb, thread.Reopen, thread.Try, thread.Load, thread.Cas:
		return true
	default:
		return mayBeOpen(phase) && w.isOpen(who)
	}
}

// sound holds that a line is open just for the item and layer at which its thread
// is, and just in the phases in which it may be captured; and that each op was
// done, or is about to be by just one thread.
func (w crew) sound(t *testing.T) {
	t.Helper()
	pending := map[int]int{}
	total := 0
	for who, u := range w.turns {
		total += u.Th.Op.V
		if code.Kind(w.line(who)) == code.OpenAt && (!w.isOpen(who) || !mayBeOpen(u.Th.Phase)) {
			t.Fatalf("the line of %d is %d: %+v", who, w.line(who), u.Th)
		}
		if !w.onItsOwn(who) {
			continue
		}
		b := u.Th.Batch
		if u.Th.Phase == thread.Absorb {
			b = batch.Join(b, w.m.Boxes[u.Th.Who])
		}
		for _, e := range b {
			pending[e.Thread]++
			total -= e.Op.V
		}
	}
	for who, many := range pending {
		if many != 1 {
			t.Fatalf("the op of %d is %d times in %+v", who, many, w.turns)
		}
	}
	for item := range w.turns[0].C.Items {
		total -= w.m.Words[arena.Cell(w.turns[0].C, item)]
	}
	if total != 0 {
		t.Fatalf("ops of %d are lost: %v, %+v", total, w.m.Words, w.turns)
	}
}

// fair holds a step of that thread, from w to next, against P15.2.
func (w crew) fair(t *testing.T, who int, next crew) {
	t.Helper()
	u, v := w.turns[who], next.turns[who]
	whom := u.Th.Who
	want := u.Th.Batch
	captures := u.Th.Phase == thread.Capture && v.Th.Phase == thread.Absorb
	switch {
	case captures:
		x := w.turns[whom].Th
		if whom == who || !w.isOpen(whom) || x.Item != u.Th.Item || x.Layer != u.Th.Layer || next.line(whom) != 0 || w.line(who) != 0 || next.line(who) != 0 {
			t.Fatalf("%d captures %d: %+v; %+v; %v", who, whom, u.Th, x, w.m.Words)
		}
	case u.Th.Phase == thread.Shut && v.Th.Phase == thread.Capture:
		if !w.isOpen(who) || next.line(who) != 0 {
			t.Fatalf("%d shuts itself: %+v, %v", who, u.Th, w.m.Words)
		}
	case u.Th.Phase == thread.Absorb:
		x := w.turns[whom].Th
		if !mayBeOpen(x.Phase) && x.Phase != thread.Wait || w.line(whom) != 0 || !slices.Equal(w.m.Boxes[whom], x.Batch) {
			t.Fatalf("%d absorbs %d: %+v; %v", who, whom, x, w.m)
		}
		want = slices.Concat(want, x.Batch)
		if !slices.Equal(v.Th.Kids, append(slices.Clone(u.Th.Kids), thread.Kid{Thread: whom, Ahead: len(u.Th.Batch)})) {
			t.Fatalf("the kids of %d: %+v, were %+v", who, v.Th.Kids, u.Th.Kids)
		}
	}
	if !slices.Equal(v.Th.Batch, want) {
		t.Fatalf("the batch of %d in phase %d: %v, want %v", who, u.Th.Phase, v.Th.Batch, want)
	}
	for o := range w.turns {
		if o != who && next.line(o) != w.line(o) && u.Th.Phase != thread.Tell && (!captures || o != whom) {
			t.Fatalf("%d in phase %d changes the line of %d: %v, was %v", who, u.Th.Phase, o, next.m.Words, w.m.Words)
		}
	}
}

// over tells whether all threads are done.
func (w crew) over() bool {
	for _, u := range w.turns {
		if thread.Busy(u.Th) {
			return false
		}
	}
	return true
}

// serial tells whether what the threads of that item were told is as if their ops
// were done one after another to a cell of x, up to what is in it now; those whose
// bits are set in done are through.
func (w crew) serial(item, x, done int) bool {
	left := false
	for who, u := range w.turns {
		if u.Th.Item != item || done&(1<<who) != 0 {
			continue
		}
		left = true
		if u.Th.X == x {
			behind, _ := oper.Apply(u.Th.Op, x, u.C.Lo, u.C.Hi)
			if w.serial(item, behind, done|1<<who) {
				return true
			}
		}
	}
	return !left && x == w.m.Words[arena.Cell(w.turns[0].C, item)]
}

// ended holds threads that all are done: no line is open, and what they were told
// is as if one op was done after another.
func (w crew) ended(t *testing.T) {
	t.Helper()
	c := w.turns[0].C
	for item := range c.Items {
		if !w.serial(item, c.Init, 0) {
			t.Fatalf("item %d: %v, %+v", item, w.m.Words, w.turns)
		}
	}
	for who := range w.turns {
		if x := w.line(who); x != 0 && x != code.Told() {
			t.Fatalf("the line of %d is %d behind it all", who, x)
		}
	}
}

// draws answers how many draws of that thread are to be told apart.
func draws(u thread.Turn) int {
	if u.Th.Phase == thread.Swap {
		return u.Th.Width
	}
	return 1
}

// explore goes through all that can become of the crew, whoever is picked, whatever
// is drawn, at any of these ticks; it answers how many crews there are, how many
// that end, and how many captures. If the ops are bits, each crew is held to be
// sound.
func explore(t *testing.T, first crew, bits bool, nows ...int) (int, int, int) {
	t.Helper()
	seen, ends, captures := map[string]bool{first.told(): true}, 0, 0
	for rest := []crew{first}; len(rest) > 0; {
		w := rest[len(rest)-1]
		rest = rest[:len(rest)-1]
		if bits {
			w.sound(t)
		}
		text, moved := w.told(), false
		for who, u := range w.turns {
			for _, now := range nows {
				for draw := range draws(u) {
					next := w.behind(who, now, draw)
					w.fair(t, who, next)
					behind := next.told()
					moved = moved || behind != text
					if seen[behind] {
						continue
					}
					seen[behind] = true
					rest = append(rest, next)
					if u.Th.Phase == thread.Absorb {
						captures++
					}
				}
			}
		}
		if w.over() {
			w.ended(t)
			ends++
		} else if !moved {
			t.Fatalf("nobody goes on: %v, %+v", w.m.Words, w.turns)
		}
	}
	return len(seen), ends, captures
}

// small answers a config of a funnel for four threads, and two items.
func small(layers, width, spin int) config.Config {
	return config.Config{Threads: 4, Items: 2, Backend: config.Funnel, Layers: layers, Width: width, Spin: spin}
}

// P15.1, P15.2: a thread that meets nobody goes through all layers, three steps and
// its looks and two more each, and behind the last one to the cell; its number
// stays in a slot of each layer, its line is free, and its batch is its own op.
func TestAlone(t *testing.T) {
	for _, c := range append(configs(), funnel()) {
		for who := range c.Threads {
			for item := range c.Items {
				u := begun(c, who, item, c.Width, bit(who))
				u.M = arena.Build(c)
				want := copied(u).M
				for layer := 1; layer <= c.Layers; layer++ {
					u.Tape = tape.Tape{L: []int{9, 13, 9}, At: 1}
					slot := 13 % u.Th.Width
					way := []int{thread.Opening, thread.Swap}
					for range c.Spin + 1 {
						way = append(way, thread.Spin)
					}
					for _, phase := range append(way, thread.Leave) {
						u, _ = Step(u)
						if u.Th.Phase != phase || u.Th.Layer != layer {
							t.Fatalf("%+v, thread %d, item %d, layer %d: phase %d, want %d: %+v", c, who, item, layer, u.Th.Phase, phase, u.Th)
						}
					}
					want.Words[arena.Slot(c, item, layer, slot)] = who + 1
					want.Words[arena.Line(c, who)] = open(item, layer)
					want.Boxes[who] = []batch.Entry{{Thread: who, Op: bit(who)}}
					if !reflect.DeepEqual(u.M, want) || u.Tape.At != 2 || u.Th.Left != 0 {
						t.Fatalf("%+v, thread %d, item %d, layer %d: %+v", c, who, item, layer, u)
					}
					u, _ = Step(u)
					want.Words[arena.Line(c, who)] = 0
				}
				if u.Th.Phase != thread.Load || !reflect.DeepEqual(u.M, want) || u.Th.Width != max(1, c.Width>>c.Layers) || len(u.Th.Kids) != 0 || !slices.Equal(u.Th.Batch, want.Boxes[who]) || u.Done || len(u.Log) != 0 {
					t.Errorf("%+v, thread %d, item %d: %+v", c, who, item, u)
				}
				if _, is := Step(u); is {
					t.Errorf("%+v: behind the last layer", c)
				}
			}
		}
	}
}

// pick is a step of a thread, and what is behind it: its phase, the slot, and the
// lines of the threads 0 and 1.
type pick struct{ who, phase, slot, first, second int }

// follows does these picks, each with a draw of 0.
func follows(t *testing.T, w crew, picks ...pick) crew {
	t.Helper()
	c := w.turns[0].C
	for i, x := range picks {
		next := w.behind(x.who, 0, 0)
		w.fair(t, x.who, next)
		w = next
		w.sound(t)
		slot := w.m.Words[arena.Slot(c, 0, 1, 0)]
		if phase := w.turns[x.who].Th.Phase; phase != x.phase || slot != x.slot || w.line(0) != x.first || w.line(1) != x.second {
			t.Fatalf("pick %d, %+v: phase %d, slot %d, lines %d and %d", i, x, phase, slot, w.line(0), w.line(1))
		}
	}
	return w
}

// P15.2: of two that meet the second one captures the first one, does both batches,
// its own one first, and tells that one what it got.
func TestTwoMeet(t *testing.T) {
	w := follows(t, muster(small(1, 1, 2), 0, 0),
		pick{0, thread.Opening, 0, 0, 0}, pick{0, thread.Swap, 0, 20, 0}, pick{0, thread.Spin, 1, 20, 0}, pick{0, thread.Spin, 1, 20, 0},
		pick{1, thread.Opening, 1, 20, 0}, pick{1, thread.Swap, 1, 20, 20}, pick{1, thread.Shut, 2, 20, 20},
		pick{1, thread.Capture, 2, 20, 0}, pick{1, thread.Absorb, 2, 0, 0},
		pick{0, thread.Wait, 2, 0, 0}, pick{0, thread.Wait, 2, 0, 0},
		pick{1, thread.Try, 2, 0, 0}, pick{1, thread.Load, 2, 0, 0}, pick{1, thread.Cas, 2, 0, 0}, pick{1, thread.Share, 2, 0, 0},
		pick{0, thread.Wait, 2, 0, 0}, pick{1, thread.Tell, 2, 0, 0}, pick{0, thread.Wait, 2, 0, 0}, pick{1, thread.Idle, 2, 5, 0},
		pick{0, thread.Fetch, 2, 5, 0}, pick{0, thread.Idle, 2, 5, 0},
	)
	w.ended(t)
	th := w.turns[1].Th
	if th.Who != 0 || th.X != 0 || w.turns[0].Th.X != 2 || w.m.Words[0] != 3 || !slices.Equal(th.Kids, []thread.Kid{{Thread: 0, Ahead: 1}}) {
		t.Errorf("%+v, %v", th, w.m.Words)
	}
	if !slices.Equal(th.Batch, []batch.Entry{{Thread: 1, Op: bit(1)}, {Thread: 0, Op: bit(0)}}) {
		t.Errorf("the batch: %v", th.Batch)
	}
}

// P15.2: what a thread captured before it was captured itself comes with it, and is
// told on; so does what cancels out, at the try.
func TestThreeMeet(t *testing.T) {
	w := muster(small(2, 1, 2), 0, 0, 0)
	w = w.alone(0, 3).alone(1, 6).alone(0, 1)
	// Thread 1 has thread 0, and goes on to the second layer; thread 2 comes late.
	w = w.alone(1, 4).alone(2, 13)
	if th := w.turns[2].Th; th.Phase != thread.Shut || th.Layer != 2 || th.Who != 1 {
		t.Fatalf("%+v", w.turns)
	}
	w = w.alone(2, 3)
	if th := w.turns[2].Th; th.Phase != thread.Try || !slices.Equal(th.Batch, []batch.Entry{{Thread: 2, Op: bit(2)}, {Thread: 1, Op: bit(1)}, {Thread: 0, Op: bit(0)}}) || !slices.Equal(th.Kids, []thread.Kid{{Thread: 1, Ahead: 1}}) {
		t.Errorf("%+v", th)
	}
	for range 9 {
		w = w.alone(2, 1).alone(1, 1).alone(0, 1)
	}
	if !w.over() || w.turns[2].Th.X != 0 || w.turns[1].Th.X != 4 || w.turns[0].Th.X != 6 || w.m.Words[0] != 7 {
		t.Errorf("%v, %+v", w.m.Words, w.turns)
	}
	w.ended(t)

	w = muster(small(2, 1, 2), 0, 0)
	w.turns[0] = begun(w.turns[0].C, 0, 0, 1, oper.Op{Tag: oper.Sub, V: 2})
	w = w.alone(0, 3).alone(1, 7)
	if th := w.turns[1].Th; th.Phase != thread.Share || w.m.Words[0] != 0 || len(w.turns[1].Log) != 2 {
		t.Errorf("Add 2, Sub 2 at the try: %+v", w.turns[1])
	}
}

// P15.1: a thread that finds its own number spins, and does not capture itself.
func TestOwnNumber(t *testing.T) {
	w := muster(small(1, 1, 1), 0)
	w.m.Words[1] = 1
	w = w.alone(0, 3)
	if th := w.turns[0].Th; th.Phase != thread.Spin || th.Left != 1 || w.line(0) != 20 || w.m.Words[1] != 1 {
		t.Errorf("%+v, %v", th, w.m.Words)
	}
	w = w.alone(0, 3)
	if th := w.turns[0].Th; th.Phase != thread.Load || w.line(0) != 0 || len(th.Kids) != 0 {
		t.Errorf("%+v, %v", th, w.m.Words)
	}
}

// P15.2: two that capture one another at once are both shut, and both open again;
// one that is shut itself while it meets another one waits.
func TestTwoAtOnce(t *testing.T) {
	first := muster(small(1, 1, 1), 0, 0)
	first.m.Words[1] = 2
	first = first.alone(0, 2).alone(1, 2)
	follows(t, first,
		pick{0, thread.Shut, 1, 20, 20}, pick{1, thread.Shut, 2, 20, 20},
		pick{0, thread.Capture, 2, 0, 20}, pick{1, thread.Capture, 2, 0, 0},
		pick{0, thread.Reopen, 2, 0, 0}, pick{1, thread.Reopen, 2, 0, 0},
		pick{0, thread.Spin, 2, 20, 0}, pick{1, thread.Spin, 2, 20, 20},
	)
	follows(t, first,
		pick{0, thread.Shut, 1, 20, 20}, pick{1, thread.Shut, 2, 20, 20},
		pick{1, thread.Capture, 2, 20, 0}, pick{1, thread.Absorb, 2, 0, 0},
		pick{0, thread.Wait, 2, 0, 0}, pick{1, thread.Try, 2, 0, 0},
	)
}

// P15.2: a number that a thread left in a slot is of no use, once that one went on
// to another layer, or another item.
func TestStaleNumbers(t *testing.T) {
	for _, x := range []struct{ item, layer int }{{0, 2}, {1, 1}, {1, 2}} {
		w := muster(small(2, 1, 1), 0, x.item)
		w.turns[1].Th.Layer = x.layer
		w = w.alone(1, 2)
		w.m.Words[1] = 2
		w = w.alone(0, 4)
		if w.turns[0].Th.Phase != thread.Capture || w.line(0) != 0 || !w.isOpen(1) {
			t.Fatalf("%+v: %+v", x, w.turns)
		}
		w = w.alone(0, 1)
		if w.turns[0].Th.Phase != thread.Reopen || !w.isOpen(1) {
			t.Errorf("%+v: %+v", x, w.turns)
		}
		if w = w.alone(0, 1); w.turns[0].Th.Phase != thread.Spin || !w.isOpen(0) || w.turns[0].Th.Left != 1 {
			t.Errorf("%+v: %+v", x, w.turns)
		}
	}
}

// P15.2: however two to four threads are picked, and whatever they draw, a thread
// captures another one just if both are open for the same item and layer, each op
// is with one thread all the while, and in the end it is as if one op was done after
// another.
func TestAllOrders(t *testing.T) {
	for _, x := range []struct {
		layers, width, spin int
		items               []int
	}{
		{1, 1, 0, []int{0, 0}}, {1, 1, 2, []int{1, 1}}, {1, 2, 1, []int{0, 0}}, {2, 1, 1, []int{0, 0}}, {2, 2, 2, []int{1, 1}},
		{3, 2, 1, []int{0, 0}}, {2, 1, 1, []int{0, 1}}, {1, 1, 0, []int{0, 0, 0}}, {1, 1, 1, []int{0, 0, 0}}, {1, 2, 0, []int{0, 0, 0}}, {2, 1, 0, []int{0, 0, 0}}, {2, 1, 0, []int{0, 0, 1}}, {1, 1, 0, []int{0, 0, 0, 0}},
	} {
		all, ends, captures := explore(t, muster(small(x.layers, x.width, x.spin), x.items...), true, 0)
		same := x.items[0] == x.items[1]
		if ends == 0 || same != (captures > 0) {
			t.Errorf("%+v: %d of %d crews ended, %d captures", x, ends, all, captures)
		}
	}
}

// P15.2: so it is with deadlines, where a thread may leave at once.
func TestAllOrdersWithDeadlines(t *testing.T) {
	for layers := 1; layers <= api.MaxLayers; layers++ {
		c := small(layers, 2, 1)
		c.Wait = 5
		all, ends, captures := explore(t, muster(c, 0, 0), true, 0, 5)
		if ends == 0 || captures == 0 {
			t.Errorf("%d layers: %d of %d crews ended, %d captures", layers, ends, all, captures)
		}
	}
}

// P15.2: so it is where ops cancel out, or are refused, and with a narrow thread.
func TestAllOrdersOfOtherOps(t *testing.T) {
	plain, bounded := small(2, 2, 1), small(2, 2, 1)
	bounded.Bounded, bounded.Lo, bounded.Hi, bounded.Init = true, 0, 9, 3
	for _, x := range []struct {
		c   config.Config
		ops []oper.Op
	}{
		{plain, []oper.Op{{Tag: oper.Add, V: 3}, {Tag: oper.Sub, V: 3}}},
		{plain, []oper.Op{{Tag: oper.Swap, V: 4}, {Tag: oper.Max, V: 2}}},
		{bounded, []oper.Op{{Tag: oper.Put, V: 7}, {Tag: oper.Take, V: 2}}},
		{bounded, []oper.Op{{Tag: oper.Put, V: 99}, {Tag: oper.Take, V: 0}}},
	} {
		w := crew{m: arena.Build(x.c)}
		for who, op := range x.ops {
			w.turns = append(w.turns, begun(x.c, who, 0, 1, op))
		}
		all, ends, captures := explore(t, w, false, 0)
		if ends == 0 || captures == 0 {
			t.Errorf("%+v: %d of %d crews ended, %d captures", x, ends, all, captures)
		}
	}
}

// P15.2: sixteen threads that do op after op, now of one item, now of another one,
// by turns, in several orders: all come through, and each op is told what was ahead
// of it.
func TestManyByTurns(t *testing.T) {
	captures := 0
	for _, wait := range []int{0, 300, api.MaxWait} {
		for _, stride := range []int{1, 3, 5, 7, 11, 15} {
			c := funnel()
			c.Spin, c.Wait, c.Items = 6, wait, 2
			w := muster(c, make([]int, c.Threads)...)
			var log []thread.Mark
			ops := make([]int, c.Threads)
			for now := range 6000 {
				who := now * stride % c.Threads
				next := w.behind(who, now, now/3)
				w.fair(t, who, next)
				if w.turns[who].Th.Phase == thread.Absorb {
					captures++
				}
				w = next
				u := w.turns[who]
				log = append(log, u.Log...)
				if u.Done {
					isTold(t, log, u)
				}
				if ops[who]++; u.Done && now < 4500 {
					w = w.anew(who, now)
				}
			}
			if !w.over() {
				t.Fatalf("wait %d, stride %d: %+v", wait, stride, w.turns)
			}
			chained(t, w, log)
		}
	}
	if captures < 100 {
		t.Errorf("%d captures", captures)
	}
}

// anew answers the crew with that thread, which is done, at its next op, which is of
// the other item.
func (w crew) anew(who, now int) crew {
	u := w.turns[who]
	w.turns = slices.Clone(w.turns)
	w.turns[who] = begun(u.C, who, 1-u.Th.Item, u.Th.Width, bit(who))
	if u.C.Wait > 0 {
		w.turns[who].Th.Until = now + u.C.Wait
	}
	w.m, _ = wmem.Store(w.m, arena.Line(u.C, who), 0)
	return w
}

// isTold holds that a thread that is done was told what was ahead of its last op.
func isTold(t *testing.T, log []thread.Mark, u thread.Turn) {
	t.Helper()
	for _, m := range slices.Backward(log) {
		if m.Thread == u.T {
			if m.Prior != u.Th.X || m.Item != u.Th.Item {
				t.Fatalf("thread %d was told %d: %+v", u.T, u.Th.X, m)
			}
			return
		}
	}
	t.Fatalf("nothing is logged of %d", u.T)
}

// chained holds that the cells are what the log tells, op after op.
func chained(t *testing.T, w crew, log []thread.Mark) {
	t.Helper()
	c := w.turns[0].C
	for item := range c.Items {
		x := c.Init
		for _, m := range log {
			if m.Item != item {
				continue
			}
			if m.Prior != x {
				t.Fatalf("item %d: %+v, in the cell is %d", item, m, x)
			}
			x, _ = oper.Apply(m.Op, x, c.Lo, c.Hi)
		}
		if x != w.m.Words[arena.Cell(c, item)] {
			t.Fatalf("item %d: %d, in the cell is %v", item, x, w.m.Words)
		}
	}
}

// P15.1: the words of the slots of one item and layer are not those of another one:
// two that are not at the same ones never meet.
func TestApart(t *testing.T) {
	for first := range 6 {
		for second := range 6 {
			w := muster(small(3, 1, 1), first/3, second/3)
			w.turns[0].Th.Layer, w.turns[1].Th.Layer = first%3+1, second%3+1
			w = w.alone(0, 3).alone(1, 3)
			meets := w.turns[1].Th.Phase == thread.Shut
			if meets != (first == second) {
				t.Errorf("%s: %+v", fmt.Sprint(first, " and ", second), w.turns)
			}
		}
	}
}
