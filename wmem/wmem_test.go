package wmem

import (
	"math"
	"slices"
	"testing"

	"millstream/api"
	"millstream/batch"
	"millstream/oper"
)

const (
	least    = math.MinInt
	greatest = math.MaxInt
)

// values are numbers that a word may be, the ends among them.
var values = []int{least, least + 1, -1, 0, 1, 5, 7, 1 << 32, greatest - 1, greatest}

// entries answers n entries, no two of them alike; from tells which.
func entries(from, n int) []batch.Entry {
	var b []batch.Entry
	for i := range n {
		b = append(b, batch.Entry{Thread: from + i, Op: oper.Op{Tag: 1 + i%9, V: 100*from + i}})
	}
	return b
}

// sample answers a memory of five words and four boxes, one of them empty.
func sample() Mem {
	return Mem{
		Words: []int{5, 7, 0, greatest, -1},
		Boxes: [][]batch.Entry{entries(1, 2), nil, entries(2, 1), entries(3, 4)},
	}
}

// clone answers a memory that is like m, and shares nothing with it.
func clone(m Mem) Mem {
	c := Mem{Words: slices.Clone(m.Words)}
	for _, b := range m.Boxes {
		c.Boxes = append(c.Boxes, slices.Clone(b))
	}
	return c
}

// same compares two memories part by part.
func same(a, b Mem) bool {
	return slices.Equal(a.Words, b.Words) && slices.EqualFunc(a.Boxes, b.Boxes, slices.Equal)
}

func checkMem(t *testing.T, step string, got, want Mem) {
	t.Helper()
	if !same(got, want) {
		t.Errorf("%s: the memory is %v, want %v", step, got, want)
	}
}

// withWord answers a memory like m, but for one word; withBox, but for one box.
func withWord(m Mem, at, v int) Mem {
	c := clone(m)
	c.Words[at] = v
	return c
}

func withBox(m Mem, i int, b []batch.Entry) Mem {
	c := clone(m)
	c.Boxes[i] = b
	return c
}

// noPlaces are places that a list of n does not have.
func noPlaces(n int) []int {
	return []int{least, least + 1, -1 << 32, -n - 1, -2, -1, n, n + 1, n + 10000, 1 << 32, 1 << 40, greatest}
}

// P3.1: numbers of words and boxes: none below 1, or above 10000.
func TestNew(t *testing.T) {
	numbers := []struct{ asked, made int }{
		{least, 0}, {-10000, 0}, {-1, 0}, {0, 0}, {1, 1}, {2, 2}, {50, 50}, {400, 400},
		{9999, 9999}, {10000, 10000}, {10001, 0}, {20000, 0}, {1 << 32, 0}, {1<<32 + 1, 0}, {greatest, 0},
	}
	for _, words := range numbers {
		for _, boxes := range numbers {
			m := New(words.asked, boxes.asked)
			if len(m.Words) != words.made || len(m.Boxes) != boxes.made {
				t.Errorf("New(%d, %d): %d words, %d boxes", words.asked, boxes.asked, len(m.Words), len(m.Boxes))
			}
		}
	}
}

// P3.1: each word is 0, and each box has no entry.
func TestNewIsEmpty(t *testing.T) {
	m := New(400, 10000)
	for at := range 400 {
		if v, e := Load(m, at); v != 0 || e != api.OK || m.Words[at] != 0 {
			t.Fatalf("word %d is %d (error %d)", at, v, e)
		}
	}
	for i := range 10000 {
		if b, e := Box(m, i); len(b) != 0 || e != api.OK || len(m.Boxes[i]) != 0 {
			t.Fatalf("box %d has %v (error %d)", i, b, e)
		}
	}
}

// P3.1: two memories are two: nothing that is written into one is in the other.
func TestNewIsNewMemory(t *testing.T) {
	one, other := New(3, 3), New(3, 3)
	one.Words[1] = 9
	one.Boxes[1] = entries(1, 1)
	checkMem(t, "New", other, Mem{Words: []int{0, 0, 0}, Boxes: [][]batch.Entry{nil, nil, nil}})
}

// P3.2: the document's example.
func TestExample(t *testing.T) {
	m, was, e := Swap(Mem{Words: []int{5, 7}}, 1, 9)
	if was != 7 || e != api.OK {
		t.Errorf("Swap told %d (error %d)", was, e)
	}
	checkMem(t, "Swap", m, Mem{Words: []int{5, 9}})
}

// P3.2: the word at each place, the first and the last one among them.
func TestLoad(t *testing.T) {
	m := sample()
	for at, want := range m.Words {
		if got, e := Load(m, at); got != want || e != api.OK {
			t.Errorf("Load at %d: %d (error %d), want %d", at, got, e, want)
		}
	}
}

// P3.2, P3.3: v as that word, and all else as it was.
func TestStoreAndSwap(t *testing.T) {
	m := sample()
	for at := range m.Words {
		for _, v := range values {
			stored, e := Store(m, at, v)
			if e != api.OK {
				t.Errorf("Store at %d of %d: error %d", at, v, e)
			}
			checkMem(t, "Store", stored, withWord(m, at, v))
			swapped, was, e := Swap(m, at, v)
			if e != api.OK || was != sample().Words[at] {
				t.Errorf("Swap at %d of %d: %d (error %d)", at, v, was, e)
			}
			checkMem(t, "Swap", swapped, withWord(m, at, v))
		}
	}
}

// P3.2, P3.3: a comparison that holds writes, that one word; one that does not
// hold leaves all as it is.
func TestCas(t *testing.T) {
	m := sample()
	for at, was := range sample().Words {
		for _, old := range append([]int{was}, values...) {
			for _, v := range append([]int{was}, values...) {
				got, is, e := Cas(m, at, old, v)
				want := m
				if old == was {
					want = withWord(m, at, v)
				}
				if is != (old == was) || e != api.OK {
					t.Errorf("Cas at %d of %d, %d: %t (error %d)", at, old, v, is, e)
				}
				checkMem(t, "Cas", got, want)
			}
		}
	}
}

// P3.2: a comparison that holds is true, too, if it writes what was there; one
// that does not hold is false, too, if it would write what is there.
func TestCasOfWhatIsThere(t *testing.T) {
	m := sample()
	if got, is, e := Cas(m, 1, 7, 7); !is || e != api.OK || !same(got, sample()) {
		t.Errorf("Cas of 7 by 7: %v, %t (error %d)", got, is, e)
	}
	if got, is, e := Cas(m, 1, 6, 7); is || e != api.OK || !same(got, sample()) {
		t.Errorf("Cas of 6 by 7, at a word of 7: %v, %t (error %d)", got, is, e)
	}
}

// P3.2: what is in each box.
func TestBox(t *testing.T) {
	m := sample()
	for i, want := range sample().Boxes {
		if got, e := Box(m, i); !slices.Equal(got, want) || e != api.OK {
			t.Errorf("Box %d: %v (error %d), want %v", i, got, e, want)
		}
	}
}

// P3.2, P3.3: b in that box, whatever was in it, and all else as it was.
func TestPut(t *testing.T) {
	m := sample()
	for i := range m.Boxes {
		for _, b := range [][]batch.Entry{nil, {}, entries(7, 1), entries(8, 3), entries(9, 100), m.Boxes[i], m.Boxes[0]} {
			got, e := Put(m, i, b)
			if e != api.OK {
				t.Errorf("Put %d: error %d", i, e)
			}
			checkMem(t, "Put", got, withBox(m, i, b))
			if in, e := Box(got, i); !slices.Equal(in, b) || e != api.OK {
				t.Errorf("Put %d of %v: %v is in it (error %d)", i, b, in, e)
			}
		}
	}
}

// P3.2: a box takes any entries, such of no thread and no op among them.
func TestPutOfAnyEntries(t *testing.T) {
	b := []batch.Entry{{}, {Thread: -1, Op: oper.Op{Tag: least, V: greatest}}, {Thread: greatest, Op: oper.Op{Tag: 10, V: least}}}
	m, e := Put(New(0, 1), 0, b)
	if got, _ := Box(m, 0); e != api.OK || !slices.Equal(got, b) {
		t.Errorf("%v (error %d)", got, e)
	}
}

// checkNoWord checks that each step at a word that there is not is ErrPlace, the
// memory the one that was handed in, and all else zero.
func checkNoWord(t *testing.T, m Mem, at int) {
	t.Helper()
	kept := clone(m)
	if v, e := Load(m, at); v != 0 || e != api.ErrPlace {
		t.Errorf("Load at %d: %d (error %d)", at, v, e)
	}
	got, e := Store(m, at, 3)
	if e != api.ErrPlace {
		t.Errorf("Store at %d: error %d", at, e)
	}
	checkMem(t, "Store", got, kept)
	for _, old := range []int{0, 5, -1} {
		got, is, e := Cas(m, at, old, 3)
		if is || e != api.ErrPlace {
			t.Errorf("Cas at %d of %d: %t (error %d)", at, old, is, e)
		}
		checkMem(t, "Cas", got, kept)
	}
	got, was, e := Swap(m, at, 3)
	if was != 0 || e != api.ErrPlace {
		t.Errorf("Swap at %d: %d (error %d)", at, was, e)
	}
	checkMem(t, "Swap", got, kept)
	checkMem(t, "what was handed in", m, kept)
}

func checkNoBox(t *testing.T, m Mem, i int) {
	t.Helper()
	kept := clone(m)
	if b, e := Box(m, i); len(b) != 0 || e != api.ErrPlace {
		t.Errorf("Box %d: %v (error %d)", i, b, e)
	}
	got, e := Put(m, i, entries(1, 2))
	if e != api.ErrPlace {
		t.Errorf("Put %d: error %d", i, e)
	}
	checkMem(t, "Put", got, kept)
	checkMem(t, "what was handed in", m, kept)
}

// P3.2: places below 0, at and above the number of words or boxes; memories
// without any. Words and boxes are counted apart.
func TestNoPlace(t *testing.T) {
	for _, m := range []Mem{sample(), {}, New(0, 0), New(1, 0), New(0, 1), New(3, 9), New(9, 3), New(10000, 10000), New(10001, 10001)} {
		for _, at := range noPlaces(len(m.Words)) {
			checkNoWord(t, m, at)
		}
		for _, i := range noPlaces(len(m.Boxes)) {
			checkNoBox(t, m, i)
		}
	}
}

// P3.2: what stands behind the end of a list is no word, and no box.
func TestPlacesBehindTheEnd(t *testing.T) {
	whole := sample()
	part := Mem{Words: whole.Words[:2], Boxes: whole.Boxes[:2]}
	for i := 2; i < 4; i++ {
		checkNoWord(t, part, i)
		checkNoBox(t, part, i)
	}
	if got, e := Store(part, 1, 9); e != api.OK || !slices.Equal(got.Words, []int{5, 9}) {
		t.Errorf("%v (error %d)", got, e)
	}
	if got, e := Put(part, 1, entries(7, 2)); e != api.OK || len(got.Boxes) != 2 {
		t.Errorf("%v (error %d)", got, e)
	}
	checkMem(t, "what was handed in", whole, sample())
}

// P3.3: many steps, one after another: after each of them just the word or the
// box that it names is another one.
func TestManySteps(t *testing.T) {
	m, want := sample(), sample()
	for n := range 300 {
		at, i, v := n%5, n%4, n*n-40*n
		switch n % 7 {
		case 0, 4:
			m, _ = Store(m, at, v)
			want.Words[at] = v
		case 1, 5:
			m, _, _ = Swap(m, at, v)
			want.Words[at] = v
		case 2:
			m, _, _ = Cas(m, at, want.Words[at], v)
			want.Words[at] = v
		case 3:
			m, _, _ = Cas(m, at, want.Words[at]+1, v)
		case 6:
			m, _ = Put(m, i, entries(n, n%5))
			want.Boxes[i] = entries(n, n%5)
		}
		checkMem(t, "step", m, want)
	}
}

// P3.3: words and boxes of one number are not each other's.
func TestWordsAndBoxesAreApart(t *testing.T) {
	m := New(2, 2)
	a, _ := Store(m, 1, 4)
	checkMem(t, "Store", a, Mem{Words: []int{0, 4}, Boxes: [][]batch.Entry{nil, nil}})
	b, _ := Put(a, 1, entries(3, 1))
	checkMem(t, "Put", b, Mem{Words: []int{0, 4}, Boxes: [][]batch.Entry{nil, entries(3, 1)}})
}

// R4: what is handed in is not changed, by no step, neither at a place nor
// beside one.
func TestNothingHandedInIsChanged(t *testing.T) {
	m := sample()
	b := entries(9, 3)
	for at := -1; at <= 5; at++ {
		Load(m, at)
		Store(m, at, 77)
		Swap(m, at, 77)
		for _, old := range values {
			Cas(m, at, old, 77)
		}
		Box(m, at)
		Put(m, at, b)
		Put(m, at, b[:1])
		Put(m, at, nil)
	}
	checkMem(t, "what was handed in", m, sample())
	if !slices.Equal(b, entries(9, 3)) {
		t.Errorf("the entries are now %v", b)
	}
}

// R4: a memory is still as it was when later ones were made of it.
func TestEarlierMemoriesStay(t *testing.T) {
	all := []Mem{sample()}
	kept := []Mem{sample()}
	for n := range 20 {
		m := all[len(all)-1]
		switch n % 3 {
		case 0:
			m, _ = Store(m, n%5, 1000+n)
		case 1:
			m, _ = Put(m, n%4, entries(n, 2))
		case 2:
			m, _, _ = Cas(m, n%5, m.Words[n%5], 2000+n)
		}
		all = append(all, m)
		kept = append(kept, clone(m))
	}
	for n := range all {
		checkMem(t, "a memory of before", all[n], kept[n])
	}
}

// overwrite writes all over a list, and over the room behind its end.
func overwrite(b []batch.Entry) {
	b = b[:cap(b)]
	for i := range b {
		b[i] = batch.Entry{Thread: -7}
	}
}

// LANGUAGE.md's rule 7: what is told of a box, and what is put into one, shares
// nothing with the memory.
func TestBoxesAreNewMemory(t *testing.T) {
	m := sample()
	for i := range m.Boxes {
		b, _ := Box(m, i)
		overwrite(b)
	}
	checkMem(t, "Box", m, sample())
	for i := range m.Boxes {
		b := entries(9, 4)
		got, _ := Put(m, i, b[:3])
		overwrite(b)
		checkMem(t, "Put", got, withBox(sample(), i, entries(9, 3)))
		in, _ := Box(got, i)
		again, _ := Box(got, i)
		overwrite(in)
		if !slices.Equal(again, entries(9, 3)) {
			t.Errorf("two answers share: %v", again)
		}
	}
}
