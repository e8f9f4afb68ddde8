package batch

import (
	"math"
	"slices"
	"testing"

	"millstream/oper"
)

const (
	least    = math.MinInt
	greatest = math.MaxInt
)

func entry(thread, tag, v int) Entry {
	return Entry{Thread: thread, Op: oper.Op{Tag: tag, V: v}}
}

func add(v int) Entry  { return entry(0, oper.Add, v) }
func sub(v int) Entry  { return entry(1, oper.Sub, v) }
func put(v int) Entry  { return entry(2, oper.Put, v) }
func take(v int) Entry { return entry(3, oper.Take, v) }
func swap(v int) Entry { return entry(4, oper.Swap, v) }

// numbered answers n entries, no two of them alike.
func numbered(n int) []Entry {
	var b []Entry
	for i := range n {
		b = append(b, entry(i, 1+i%9, 100+i))
	}
	return b
}

// smallOps are ops of all tags, such that do nothing and such that go round
// among them.
var smallOps = []Entry{
	add(3), add(-3), add(greatest), sub(3), sub(least), swap(5),
	entry(5, oper.Or, 6), entry(5, oper.And, 5), entry(5, oper.Max, 4), entry(5, oper.Min, 4),
	put(4), put(-4), put(greatest), take(2), take(greatest), take(-1),
	entry(6, 0, 3), entry(6, 10, 3), entry(-1, -1, 3), entry(6, least, 3),
}

// cells are numbers of a cell, with its floor and its ceiling.
var cells = [][3]int{
	{5, 0, 9}, {0, 0, 6}, {5, 5, 5}, {-4, 0, 9}, {12, 0, 9}, {5, 9, 0},
	{greatest, least, greatest}, {least, least, greatest}, {greatest - 2, 0, greatest},
}

// everyBatch goes through all batches of at most two small ops, and those of
// three that end as they begin.
func everyBatch(visit func(b []Entry)) {
	visit(nil)
	for _, first := range smallOps {
		visit([]Entry{first})
		for _, second := range smallOps {
			visit([]Entry{first, second})
			visit([]Entry{first, second, first})
		}
	}
}

// oneByOne is what the ops do by the document's words: All, and Priors.
func oneByOne(b []Entry, x, lo, hi int) (int, []int) {
	var priors []int
	for i := range b {
		priors = append(priors, x)
		if y, does := oper.Apply(b[i].Op, x, lo, hi); does {
			x = y
		}
	}
	return x, priors
}

func checkBatch(t *testing.T, b []Entry, x, lo, hi, all int, priors []int) {
	t.Helper()
	if got := All(b, x, lo, hi); got != all {
		t.Errorf("All(%v, %d, %d, %d) = %d, want %d", b, x, lo, hi, got, all)
	}
	if got := Priors(b, x, lo, hi); !slices.Equal(got, priors) {
		t.Errorf("Priors(%v, %d, %d, %d) = %v, want %v", b, x, lo, hi, got, priors)
	}
	if got, want := Still(b, x, lo, hi), all == x; got != want {
		t.Errorf("Still(%v, %d, %d, %d) = %t", b, x, lo, hi, got)
	}
}

type row struct {
	b         []Entry
	x, lo, hi int
	all       int
	priors    []int
}

func checkRows(t *testing.T, rows []row) {
	t.Helper()
	for _, r := range rows {
		checkBatch(t, r.b, r.x, r.lo, r.hi, r.all, r.priors)
	}
}

// P2.1: ordinary batches, of cells with bounds and without.
func TestBatches(t *testing.T) {
	checkRows(t, []row{
		{[]Entry{add(3), sub(3)}, 5, 0, 0, 5, []int{5, 8}},
		{[]Entry{add(3), sub(3), swap(9)}, 5, 0, 0, 9, []int{5, 8, 5}},
		{[]Entry{sub(3), swap(9), add(3)}, 5, 0, 0, 12, []int{5, 2, 9}},
		{[]Entry{add(7)}, 5, 0, 0, 12, []int{5}},
		{[]Entry{add(0), add(0)}, 5, 0, 0, 5, []int{5, 5}},
		{[]Entry{swap(1), swap(2), swap(5)}, 5, 0, 0, 5, []int{5, 1, 2}},
		{[]Entry{entry(0, oper.Or, 6), entry(0, oper.And, 12), entry(0, oper.Max, 20), entry(0, oper.Min, 7)}, 9, 0, 0, 7, []int{9, 15, 12, 20}},
		{[]Entry{put(3), put(1), take(2)}, 5, 0, 9, 7, []int{5, 8, 9}},
		{[]Entry{put(-3), take(9), put(6)}, 5, 0, 6, 6, []int{5, 2, 0}},
	})
}

// P2.1: no batch, and a batch without entries: the cell stays, and there are no
// priors.
func TestBatchesWithoutEntries(t *testing.T) {
	for _, c := range cells {
		checkBatch(t, nil, c[0], c[1], c[2], c[0], nil)
		checkBatch(t, []Entry{}, c[0], c[1], c[2], c[0], nil)
		checkBatch(t, numbered(3)[:0], c[0], c[1], c[2], c[0], nil)
	}
}

// P2.1: ops that are refused do nothing, and those behind them are done all the
// same; what is refused has a prior, too.
func TestRefusedOps(t *testing.T) {
	checkRows(t, []row{
		{[]Entry{put(-3), put(-3), take(9), put(4)}, 5, 0, 6, 4, []int{5, 2, 2, 0}},
		{[]Entry{put(2), put(1)}, 5, 0, 6, 6, []int{5, 5}},
		{[]Entry{put(2), put(2)}, 5, 0, 6, 5, []int{5, 5}},
		{[]Entry{take(-1), take(2), take(-1)}, 5, 0, 6, 3, []int{5, 5, 3}},
		{[]Entry{take(1), put(3), take(1)}, -2, 0, 6, 0, []int{-2, -2, 1}},
		{[]Entry{entry(0, 0, 7), add(1), entry(0, 10, 7), entry(0, -1, 7)}, 5, 0, 0, 6, []int{5, 5, 6, 6}},
		{[]Entry{entry(0, least, 7), entry(0, greatest, 7)}, 5, 0, 0, 5, []int{5, 5}},
		{[]Entry{put(0), put(0)}, 5, 9, 0, 5, []int{5, 5}},
		{[]Entry{put(1), put(greatest), put(-1)}, greatest, least, greatest, greatest - 1, []int{greatest, greatest, greatest}},
		{[]Entry{put(-1), put(least), put(1)}, least, least, greatest, least + 1, []int{least, least, least}},
	})
}

// P2.1: sums that go round at 2^64, there and back again.
func TestSumsThatGoRound(t *testing.T) {
	checkRows(t, []row{
		{[]Entry{add(1), sub(1)}, greatest, 0, 0, greatest, []int{greatest, least}},
		{[]Entry{sub(1), add(2)}, least, 0, 0, least + 1, []int{least, greatest}},
		{[]Entry{add(greatest), add(greatest), add(2)}, 5, 0, 0, 5, []int{5, least + 4, 3}},
		{[]Entry{add(least), add(least)}, 7, 0, 0, 7, []int{7, least + 7}},
		{[]Entry{sub(least), sub(least)}, -1, 0, 0, -1, []int{-1, greatest}},
	})
}

// P2.1: every small batch does at every cell what its ops do one after another.
func TestEveryBatchIsOneByOne(t *testing.T) {
	everyBatch(func(b []Entry) {
		for _, c := range cells {
			all, priors := oneByOne(b, c[0], c[1], c[2])
			checkBatch(t, b, c[0], c[1], c[2], all, priors)
		}
	})
}

// P2.1: whose the ops are says nothing.
func TestThreadsSayNothing(t *testing.T) {
	b := []Entry{put(-3), put(-3), take(9), put(4)}
	for _, thread := range []int{least, -1, 0, 1, 16, greatest} {
		for i := range b {
			b[i].Thread = thread
		}
		checkBatch(t, b, 5, 0, 6, 4, []int{5, 2, 2, 0})
	}
}

// P2.1: long batches.
func TestLongBatches(t *testing.T) {
	for _, n := range []int{100, 20000} {
		var b []Entry
		var priors []int
		for i := range n {
			b = append(b, add(2))
			priors = append(priors, 2*i-7)
		}
		checkBatch(t, b, -7, 0, 0, 2*n-7, priors)
	}
}

// P2.1: what is in the cell can be asked for more than once, and not to the end.
func TestContentsBeginAnew(t *testing.T) {
	told := contents([]Entry{add(3), add(4), add(5)}, 1, 0, 0)
	for range 3 {
		var got []int
		for ahead, behind := range told {
			got = append(got, ahead, behind)
			if len(got) == 4 {
				break
			}
		}
		if !slices.Equal(got, []int{1, 4, 4, 8}) {
			t.Error(got)
		}
	}
}

// P2.2: batches by any many, in their order, those without entries among them.
func TestJoin(t *testing.T) {
	b := numbered(7)
	for i, r := range []struct{ got, want []Entry }{
		{Join(), nil},
		{Join(nil), nil},
		{Join(nil, []Entry{}, nil), nil},
		{Join([][]Entry{}...), nil},
		{Join(b), b},
		{Join(b[:3], b[3:]), b},
		{Join(nil, b[:1], nil, b[1:4], []Entry{}, b[4:], nil), b},
		{Join(b[5:], b[:2]), []Entry{b[5], b[6], b[0], b[1]}},
		{Join(b[:1], b[:1], b[:1]), []Entry{b[0], b[0], b[0]}},
	} {
		if !slices.Equal(r.got, r.want) {
			t.Errorf("%d: %v, want %v", i, r.got, r.want)
		}
	}
}

// P2.2: many batches, of one entry each.
func TestJoinOfMany(t *testing.T) {
	b := numbered(300)
	var parts [][]Entry
	for i := range b {
		parts = append(parts, b[i:i+1])
	}
	if got := Join(parts...); !slices.Equal(got, b) {
		t.Error(got)
	}
}

// P2.2: n below 1, within, at and above the number of entries.
func TestUpto(t *testing.T) {
	b := numbered(4)
	for _, r := range []struct{ n, want int }{
		{least, 0}, {least + 1, 0}, {-4, 0}, {-1, 0}, {0, 0},
		{1, 1}, {2, 2}, {3, 3}, {4, 4},
		{5, 4}, {99, 4}, {1 << 32, 4}, {greatest, 4},
	} {
		if got := Upto(b, r.n); !slices.Equal(got, b[:r.want]) {
			t.Errorf("Upto(b, %d) = %v", r.n, got)
		}
		if got := Upto(nil, r.n); len(got) != 0 {
			t.Errorf("Upto(nil, %d) = %v", r.n, got)
		}
		if got := Upto([]Entry{}, r.n); len(got) != 0 {
			t.Errorf("Upto of no entries, %d, = %v", r.n, got)
		}
	}
}

// P2.2: entries that stand behind the end of a list are none of it.
func TestUptoStaysWithinItsList(t *testing.T) {
	b := numbered(9)
	for _, n := range []int{3, 4, 9, greatest} {
		if got := Upto(b[:3], n); !slices.Equal(got, b[:3]) {
			t.Errorf("Upto of 3 entries, %d, = %v", n, got)
		}
	}
}

// P2.3: batches one after another do what they do joined, and the priors of the
// second one begin with what the first one leaves.
func TestOneAfterAnotherAsJoined(t *testing.T) {
	var short [][]Entry
	everyBatch(func(b []Entry) {
		if len(b) < 2 {
			short = append(short, b)
		}
	})
	everyBatch(func(b []Entry) {
		for _, s := range short {
			for _, c := range cells {
				checkJoined(t, b, s, c[0], c[1], c[2])
				checkJoined(t, s, b, c[0], c[1], c[2])
			}
		}
	})
}

func checkJoined(t *testing.T, first, second []Entry, x, lo, hi int) {
	t.Helper()
	both := Join(first, second)
	left := All(first, x, lo, hi)
	if got, want := All(both, x, lo, hi), All(second, left, lo, hi); got != want {
		t.Fatalf("All(%v and %v, %d, %d, %d) = %d, want %d", first, second, x, lo, hi, got, want)
	}
	priors := Priors(both, x, lo, hi)
	want := append(Priors(first, x, lo, hi), Priors(second, left, lo, hi)...)
	if !slices.Equal(priors, want) {
		t.Fatalf("Priors(%v and %v, %d, %d, %d) = %v, want %v", first, second, x, lo, hi, priors, want)
	}
	if len(second) > 0 && priors[len(first)] != left {
		t.Fatalf("priors of %v begin with %d, and %v leaves %d", second, priors[len(first)], first, left)
	}
}

// P2.3: a batch that is cut anywhere does what it did whole; and of three
// batches it does not matter which two are joined first.
func TestCutAnywhere(t *testing.T) {
	b := append(slices.Clone(smallOps), smallOps...)
	for n := -1; n <= len(b)+1; n++ {
		head := Upto(b, n)
		tail := b[len(head):]
		for _, c := range cells {
			all, priors := oneByOne(b, c[0], c[1], c[2])
			checkBatch(t, Join(head, tail), c[0], c[1], c[2], all, priors)
			checkJoined(t, head, tail, c[0], c[1], c[2])
		}
		if !slices.Equal(Join(Join(head, tail), b), Join(head, Join(tail, b))) {
			t.Errorf("cut at %d", n)
		}
	}
}

// R4: what is handed in is not changed: neither the entries, nor what stands
// behind the end of a list, nor the list of the batches.
func TestNothingHandedInIsChanged(t *testing.T) {
	b := numbered(9)
	kept := slices.Clone(b)
	l := [][]Entry{b[:2], nil, b[4:5], b[:0], b[2:3]}
	for n := -1; n <= 10; n++ {
		Upto(b, n)
		Upto(b[:4], n)
	}
	Join(l...)
	Join(b[:0], b[6:])
	Join(b[:1], b[6:])
	for _, c := range cells {
		All(b, c[0], c[1], c[2])
		Priors(b[:4], c[0], c[1], c[2])
		Still(b, c[0], c[1], c[2])
	}
	if !slices.Equal(b, kept) {
		t.Errorf("entries are now %v", b)
	}
	for i, part := range [][]Entry{kept[:2], nil, kept[4:5], nil, kept[2:3]} {
		if !slices.Equal(l[i], part) {
			t.Errorf("batch %d is now %v", i, l[i])
		}
	}
}

// overwrite writes all over a list, and over the room that it has behind its end.
func overwrite(b []Entry) {
	b = b[:cap(b)]
	for i := range b {
		b[i] = entry(-7, -7, -7)
	}
}

// LANGUAGE.md's rule 7: an answer is new memory, and nothing is seen of it in
// what was handed in, nor the other way round.
func TestAnswersAreNewMemory(t *testing.T) {
	calls := map[string]func(b []Entry) []Entry{
		"Join of one":         func(b []Entry) []Entry { return Join(b) },
		"Join of none, one":   func(b []Entry) []Entry { return Join(nil, b) },
		"Join of one, none":   func(b []Entry) []Entry { return Join(b, nil) },
		"Join of a beginning": func(b []Entry) []Entry { return Join(b[:2]) },
		"Join of parts":       func(b []Entry) []Entry { return Join(b[:2], b[2:]) },
		"Join of no entry":    func(b []Entry) []Entry { return Join(b[:0]) },
		"Upto less than none": func(b []Entry) []Entry { return Upto(b, -1) },
		"Upto none":           func(b []Entry) []Entry { return Upto(b, 0) },
		"Upto some":           func(b []Entry) []Entry { return Upto(b, 3) },
		"Upto all":            func(b []Entry) []Entry { return Upto(b, 5) },
		"Upto more":           func(b []Entry) []Entry { return Upto(b, 99) },
	}
	for name, call := range calls {
		room := numbered(8)
		b := room[:5]
		overwrite(call(b))
		if !slices.Equal(room, numbered(8)) {
			t.Errorf("%s: what was handed in is now %v", name, room)
		}
		answer := call(b)
		kept := slices.Clone(answer)
		overwrite(call(b))
		overwrite(b)
		if !slices.Equal(answer, kept) {
			t.Errorf("%s: what was answered is now %v, was %v", name, answer, kept)
		}
	}
}

// LANGUAGE.md's rule 7: priors of two calls are two lists.
func TestPriorsAreNewMemory(t *testing.T) {
	b := []Entry{add(3), sub(3), swap(9)}
	one := Priors(b, 5, 0, 0)
	other := Priors(b, 5, 0, 0)
	for i := range one {
		one[i] = -1
	}
	if !slices.Equal(other, []int{5, 8, 5}) {
		t.Error(other)
	}
}
