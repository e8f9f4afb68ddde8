package code

import (
	"math"
	"testing"

	"millstream/api"
)

const (
	least    = math.MinInt
	greatest = math.MaxInt
)

// How many threads, items and layers there may be.
const (
	threads = 16
	items   = 4
	layers  = 3
)

// beyond is further out than all words that say something, which end at 420.
const beyond = 5000

// told is what Kind, Who and Where tell of a word.
type told struct{ kind, who, item, layer int }

func tell(w int) told {
	item, layer := Where(w)
	return told{Kind(w), Who(w), item, layer}
}

// no is told of words that say nothing.
func no() told { return told{-1, -1, -1, 0} }

func is(t *testing.T, what string, got, want int) {
	t.Helper()
	if got != want {
		t.Errorf("%s is %d, want %d", what, got, want)
	}
}

func tells(t *testing.T, w int, want told) {
	t.Helper()
	if got := tell(w); got != want {
		t.Errorf("%d tells %v, want %v", w, got, want)
	}
}

// firsts, joins, deposits and opens are the words of all threads, and of all
// items and their layers, written out.
func firsts() []int {
	return []int{9, 17, 25, 33, 41, 49, 57, 65, 73, 81, 89, 97, 105, 113, 121, 129}
}

func joins() []int {
	return []int{10, 18, 26, 34, 42, 50, 58, 66, 74, 82, 90, 98, 106, 114, 122, 130}
}

func deposits() []int {
	return []int{11, 19, 27, 35, 43, 51, 59, 67, 75, 83, 91, 99, 107, 115, 123, 131}
}

func opens() [][]int {
	return [][]int{{20, 28, 36}, {148, 156, 164}, {276, 284, 292}, {404, 412, 420}}
}

// words answers all words that say something, with what they tell.
func words() map[int]told {
	all := map[int]told{0: {0, -1, -1, 0}, 5: {5, -1, -1, 0}}
	for kind, row := range [][]int{1: firsts(), 2: joins(), 3: deposits()} {
		for th, w := range row {
			all[w] = told{kind, th, -1, 0}
		}
	}
	for item, row := range opens() {
		for i, w := range row {
			all[w] = told{4, -1, item, i + 1}
		}
	}
	return all
}

// wanted answers what the word has to tell.
func wanted(w int) told {
	if want, ok := words()[w]; ok {
		return want
	}
	return no()
}

// The tests go to the limits that the document names.
func TestLimits(t *testing.T) {
	is(t, "MaxThreads", api.MaxThreads, threads)
	is(t, "MaxItems", api.MaxItems, items)
	is(t, "MaxLayers", api.MaxLayers, layers)
}

// The kinds have the document's numbers.
func TestKinds(t *testing.T) {
	for want, kind := range []int{Free, FirstOf, JoinedBy, From, OpenAt, Done} {
		is(t, "a kind", kind, want)
	}
}

// P8.1: the document's example.
func TestExample(t *testing.T) { is(t, "First(2)", First(2), 25) }

// P8.1: the words of the first and the last thread, item and layer.
func TestFirstAndLast(t *testing.T) {
	is(t, "First(0)", First(0), 9)
	is(t, "First(15)", First(15), 129)
	is(t, "Joined(0)", Joined(0), 10)
	is(t, "Joined(15)", Joined(15), 130)
	is(t, "Deposited(0)", Deposited(0), 11)
	is(t, "Deposited(15)", Deposited(15), 131)
	is(t, "Open(0, 1)", Open(0, 1), 20)
	is(t, "Open(0, 3)", Open(0, 3), 36)
	is(t, "Open(3, 1)", Open(3, 1), 404)
	is(t, "Open(3, 3)", Open(3, 3), 420)
	is(t, "Told()", Told(), 5)
}

// P8.1: the words of all threads, against what is written out.
func TestWordsOfThreads(t *testing.T) {
	for th := range threads {
		is(t, "First", First(th), firsts()[th])
		is(t, "Joined", Joined(th), joins()[th])
		is(t, "Deposited", Deposited(th), deposits()[th])
	}
}

// P8.1: the words of all items and layers, against what is written out.
func TestWordsOfPlaces(t *testing.T) {
	for item := range items {
		for layer := 1; layer <= layers; layer++ {
			is(t, "Open", Open(item, layer), opens()[item][layer-1])
		}
	}
}

// P8.1: the next thread's words are eight on, the next layer's too, and the next
// item's sixteen times that.
func TestWordsOfTheNext(t *testing.T) {
	for th := 1; th < threads; th++ {
		is(t, "First", First(th), First(th-1)+8)
		is(t, "Joined", Joined(th), First(th)+1)
		is(t, "Deposited", Deposited(th), First(th)+2)
	}
	for item := range items {
		for layer := 1; layer <= layers; layer++ {
			if layer > 1 {
				is(t, "Open of the next layer", Open(item, layer), Open(item, layer-1)+8)
			}
			if item > 0 {
				is(t, "Open of the next item", Open(item, layer), Open(item-1, layer)+128)
			}
		}
	}
}

// P8.2: 0 is free, and 5 is told; neither tells of a thread or a place.
func TestFreeAndTold(t *testing.T) {
	tells(t, 0, told{Free, -1, -1, 0})
	tells(t, 5, told{Done, -1, -1, 0})
	tells(t, Told(), told{Done, -1, -1, 0})
}

// P8.2: each word tells what it was made of, and nothing else.
func TestWordsTellWhatTheyAreOf(t *testing.T) {
	for th := range threads {
		tells(t, First(th), told{FirstOf, th, -1, 0})
		tells(t, Joined(th), told{JoinedBy, th, -1, 0})
		tells(t, Deposited(th), told{From, th, -1, 0})
	}
	for item := range items {
		for layer := 1; layer <= layers; layer++ {
			tells(t, Open(item, layer), told{OpenAt, -1, item, layer})
		}
	}
}

// P8.2: what all words from far below to far above those that say something
// tell, against what is written out.
func TestAllWordsAround(t *testing.T) {
	all := words()
	for w := -beyond; w <= beyond; w++ {
		want, ok := all[w]
		if !ok {
			want = no()
		}
		tells(t, w, want)
	}
}

// P8.2: just below and just above a word that says something are some that say
// something else, and some that say nothing.
func TestWordsBeside(t *testing.T) {
	for w := range words() {
		for by := 1; by <= 8; by++ {
			tells(t, w-by, wanted(w-by))
			tells(t, w+by, wanted(w+by))
		}
	}
	for _, w := range []int{-1, 1, 4, 6, 8, 12, 21, 128, 132, 403, 405, 419, 421} {
		tells(t, w, no())
	}
}

// P8.2: words of a thread one ahead of the first, one beyond the last, and more.
func TestNoSuchThread(t *testing.T) {
	for _, w := range []int{1, 2, 3, 137, 138, 139, 145, 146, 147, 265, 521, -7, -6, -5, -15, -14, -13} {
		tells(t, w, no())
	}
}

// P8.2: words of an item one ahead of the first, and one beyond the last, at
// each layer that there is.
func TestNoSuchItem(t *testing.T) {
	for _, w := range []int{532, 540, 548, 660, 668, 676, 2068, -108, -100, -92, -236, -228, -220} {
		tells(t, w, no())
	}
}

// P8.2: words of a layer 0, of one beyond the last, and of all up to those of
// the next item, also of items that there are not.
func TestNoSuchLayer(t *testing.T) {
	for _, w := range []int{12, 140, 268, 396, 524, 44, 172, 300, 428, 556, -116, -84} {
		tells(t, w, no())
	}
	for item := range items {
		for layer := layers + 1; layer <= 16; layer++ {
			tells(t, 8*(16*item+layer+1)+4, no())
		}
	}
}

// P8.2: what says free or told together with a thread says nothing; neither do
// numbers that have the place of a kind of which there is none.
func TestNoSuchKind(t *testing.T) {
	for th := -40; th < 40; th++ {
		if th != -1 {
			tells(t, 8*(th+1), no())
			tells(t, 8*(th+1)+5, no())
		}
		tells(t, 8*(th+1)+6, no())
		tells(t, 8*(th+1)+7, no())
	}
}

// P8.2: words below 0; among them the opposites of all that say something, and
// what stands as far below the end of what an int holds.
func TestBelowNothing(t *testing.T) {
	for w := range words() {
		if w != 0 {
			tells(t, -w, no())
		}
		tells(t, -w-1, no())
		tells(t, least+w, no())
		tells(t, ^w, no())
	}
}

// P8.2: words that are like one that says something in their lowest bits alone,
// to the highest bit.
func TestFarBits(t *testing.T) {
	for w := range words() {
		for shift := 9; shift < 64; shift++ {
			tells(t, w+1<<shift, no())
			tells(t, w-1<<shift, no())
		}
	}
}

// P8.2: words at the ends of what an int holds.
func TestEnds(t *testing.T) {
	for by := range beyond {
		tells(t, least+by, no())
		tells(t, greatest-by, no())
	}
}

// makings answers the words that all calls of P8.1 tell, and 0.
func makings() []int {
	l := []int{0, Told()}
	for th := range threads {
		l = append(l, First(th), Joined(th), Deposited(th))
	}
	for item := range items {
		for layer := 1; layer <= layers; layer++ {
			l = append(l, Open(item, layer))
		}
	}
	return l
}

// P8.3: the words of all threads, items and layers, and 0 and 5, are each unlike
// all others.
func TestNoWordTwice(t *testing.T) {
	seen := map[int]bool{}
	for _, w := range makings() {
		if seen[w] {
			t.Errorf("%d is told twice", w)
		}
		seen[w] = true
	}
	is(t, "the number of words", len(seen), 2+3*threads+items*layers)
}

// P8.3: no two words say the same, among all that are told and all around them.
func TestNoTwoSayTheSame(t *testing.T) {
	by := map[told]int{}
	for w := -beyond; w <= beyond; w++ {
		said := tell(w)
		if said.kind == -1 {
			continue
		}
		if other, ok := by[said]; ok {
			t.Errorf("%d and %d both say %v", other, w, said)
		}
		by[said] = w
	}
	is(t, "the number of words that say something", len(by), len(makings()))
	for _, w := range makings() {
		is(t, "the word that says this", by[tell(w)], w)
	}
}

// R5: the same is told again, also if something else was asked between.
func TestSameAgain(t *testing.T) {
	for w := -50; w < 450; w++ {
		was := tell(w)
		for _, other := range makings() {
			tell(other)
		}
		tells(t, w, was)
	}
}

// Of threads, items and layers that may not be nothing is promised; yet all
// calls end there, and none panics.
func TestAnyNumbers(t *testing.T) {
	ends := []int{least, least + 1, -17, -1, 0, 4, 16, 17, 1 << 59, 1 << 60, 1 << 61, greatest - 1, greatest}
	for _, a := range ends {
		First(a)
		Joined(a)
		Deposited(a)
		tell(a)
		for _, b := range ends {
			tell(Open(a, b))
		}
	}
}
