package shape

import (
	"math"
	"slices"
	"testing"

	"millstream/api"
)

const (
	least    = math.MinInt
	greatest = math.MaxInt
)

// deepest is as deep as a tree may be.
const deepest = 4

func is(t *testing.T, what string, got, want int) {
	t.Helper()
	if got != want {
		t.Errorf("%s is %d, want %d", what, got, want)
	}
}

func pathIs(t *testing.T, depth, th int, want ...int) {
	t.Helper()
	if got := Path(depth, th); !slices.Equal(got, want) {
		t.Errorf("Path(%d, %d) is %v, want %v", depth, th, got, want)
	}
}

// leavesOf is how many leaves a tree of that depth has.
func leavesOf(depth int) int { return []int{0, 1, 2, 4, 8}[depth] }

// nodesOf is how many nodes a tree of that depth has.
func nodesOf(depth int) int { return []int{0, 1, 3, 7, 15}[depth] }

// parents and levels are those of the nodes 0 to 16, written out.
func parents() []int { return []int{0, 0, 1, 1, 2, 2, 3, 3, 4, 4, 5, 5, 6, 6, 7, 7, 8} }

func levels() []int { return []int{0, 0, 1, 1, 2, 2, 2, 2, 3, 3, 3, 3, 3, 3, 3, 3, 4} }

// leafOf deals threads to leaves two by two, from the left to the right and
// then from the left again.
func leafOf(depth, th int) int {
	if depth == 0 {
		return 0
	}
	first := leavesOf(depth)
	leaf := first
	for range th / 2 {
		leaf++
		if leaf == 2*first {
			leaf = first
		}
	}
	return leaf
}

// pathOf goes up by the written parents.
func pathOf(depth, th int) []int {
	var l []int
	for n := leafOf(depth, th); n != 0; n = parents()[n] {
		l = append(l, n)
	}
	return l
}

// far answers threads that are far beyond all that a service may have.
func far() []int {
	l := []int{greatest, greatest - 1, greatest - 2, greatest - 15, greatest - 16, greatest - 17}
	for shift := 5; shift < 63; shift++ {
		l = append(l, 1<<shift-1, 1<<shift, 1<<shift+1, 1<<shift+2)
	}
	return l
}

// The tests go to the limit that the document names.
func TestDeepest(t *testing.T) {
	is(t, "MaxDepth", api.MaxDepth, deepest)
}

// P7.2: the document's example.
func TestExample(t *testing.T) {
	pathIs(t, 3, 5, 6, 3, 1)
	is(t, "Leaf(3, 5)", Leaf(3, 5), 6)
}

// P7.1: without a tree there is no leaf, whatever the thread is.
func TestLeafOfNoTree(t *testing.T) {
	for _, th := range append(far(), 0, 1, 2, 3, 15, 16) {
		is(t, "Leaf", Leaf(0, th), 0)
	}
}

// P7.1: of depth 1 the top is everybody's leaf.
func TestLeafOfOneNode(t *testing.T) {
	for _, th := range append(far(), 0, 1, 2, 3, 15, 16) {
		is(t, "Leaf", Leaf(1, th), 1)
	}
}

// P7.1: leaves written out: two threads at each one, and behind as many threads
// as twice the leaves it begins again.
func TestLeafWrittenOut(t *testing.T) {
	for depth, want := range [][]int{
		2: {2, 2, 3, 3, 2, 2, 3, 3, 2},
		3: {4, 4, 5, 5, 6, 6, 7, 7, 4, 4, 5, 5, 6, 6, 7, 7, 4},
		4: {8, 8, 9, 9, 10, 10, 11, 11, 12, 12, 13, 13, 14, 14, 15, 15, 8, 8, 9},
	} {
		for th, leaf := range want {
			is(t, "Leaf", Leaf(depth, th), leaf)
		}
	}
}

// P7.1: leaves of many threads, and of each depth.
func TestLeafOfMany(t *testing.T) {
	for depth := range deepest + 1 {
		for th := range 200 {
			is(t, "Leaf", Leaf(depth, th), leafOf(depth, th))
		}
	}
}

// P7.1: the greatest int as a thread; it is odd, and its half has all bits.
func TestLeafOfGreatest(t *testing.T) {
	for depth := 1; depth <= deepest; depth++ {
		is(t, "Leaf of the greatest", Leaf(depth, greatest), nodesOf(depth))
		is(t, "Leaf of the one ahead", Leaf(depth, greatest-1), nodesOf(depth))
		is(t, "Leaf of the two ahead", Leaf(depth, greatest-2), max(leavesOf(depth), nodesOf(depth)-1))
	}
}

// P7.1: a leaf stays if twice the leaves are added to a thread; also far out.
func TestLeafGoesRound(t *testing.T) {
	for depth := 1; depth <= deepest; depth++ {
		round := 2 * leavesOf(depth)
		for _, th := range far() {
			is(t, "Leaf far out", Leaf(depth, th), leafOf(depth, th%round))
			is(t, "Leaf a round ahead", Leaf(depth, th-round), Leaf(depth, th))
		}
	}
}

// P7.1: nodes below 2 have no parent, and nothing stands above them.
func TestNothingAbove(t *testing.T) {
	for _, n := range []int{1, 0, -1, -2, -3, -4, -100, -1 << 40, least + 1, least} {
		is(t, "Parent", Parent(n), 0)
		is(t, "Level", Level(n), 0)
	}
}

// P7.1: parents and levels of all nodes that a tree may have, written out.
func TestParentAndLevelWrittenOut(t *testing.T) {
	for n, want := range parents() {
		is(t, "Parent", Parent(n), want)
	}
	for n, want := range levels() {
		is(t, "Level", Level(n), want)
	}
}

// P7.1: parents and levels of nodes that no tree here has, to the greatest int.
func TestParentAndLevelFarUp(t *testing.T) {
	for level := 1; level < 63; level++ {
		first := 1 << level
		// The last one is written so that nothing goes beyond the greatest int.
		last := first - 1 + first
		is(t, "Level of the first", Level(first), level)
		is(t, "Level of the last", Level(last), level)
		is(t, "Parent of the first", Parent(first), first/2)
		is(t, "Parent of the second", Parent(first+1), first/2)
		is(t, "Parent of the last", Parent(last), first-1)
	}
	is(t, "Level of the greatest", Level(greatest), 62)
	is(t, "Parent of the greatest", Parent(greatest), 1<<62-1)
	is(t, "Level of the one ahead", Level(greatest-1), 62)
	is(t, "Parent of the one ahead", Parent(greatest-1), 1<<62-1)
}

// P7.2: without a tree there is no way, and nobody meets.
func TestNoTree(t *testing.T) {
	for _, th := range []int{0, 1, 2, 15, 16, greatest} {
		pathIs(t, 0, th)
		for _, u := range []int{0, 1, 2, 15, 16, greatest} {
			is(t, "Meet", Meet(0, th, u), 0)
		}
	}
}

// P7.2: ways written out: of depth 1, of MaxDepth, and of one between; thread 0,
// two of one leaf, as many threads as twice the leaves, and more.
func TestPathWrittenOut(t *testing.T) {
	pathIs(t, 1, 0, 1)
	pathIs(t, 1, 1, 1)
	pathIs(t, 1, 2, 1)
	pathIs(t, 1, greatest, 1)
	pathIs(t, 2, 0, 2, 1)
	pathIs(t, 2, 2, 3, 1)
	pathIs(t, 3, 0, 4, 2, 1)
	pathIs(t, 3, 1, 4, 2, 1)
	pathIs(t, 3, 2, 5, 2, 1)
	pathIs(t, 3, 7, 7, 3, 1)
	pathIs(t, 3, 8, 4, 2, 1)
	pathIs(t, 3, 11, 5, 2, 1)
	pathIs(t, 4, 0, 8, 4, 2, 1)
	pathIs(t, 4, 9, 12, 6, 3, 1)
	pathIs(t, 4, 15, 15, 7, 3, 1)
	pathIs(t, 4, 16, 8, 4, 2, 1)
	pathIs(t, 4, greatest, 15, 7, 3, 1)
}

// P7.2: ways of many threads through trees of each depth.
func TestPathOfMany(t *testing.T) {
	for depth := range deepest + 1 {
		for th := range 100 {
			pathIs(t, depth, th, pathOf(depth, th)...)
		}
		for _, th := range far() {
			if depth > 0 {
				pathIs(t, depth, th, pathOf(depth, th%(2*leavesOf(depth)))...)
			}
		}
	}
}

// P7.2: two threads that meet at their leaf, half way up, and at the top.
func TestMeetWrittenOut(t *testing.T) {
	for _, x := range []struct{ depth, t, u, want int }{
		{1, 0, 0, 1}, {1, 0, 1, 1}, {1, 3, 8, 1}, {1, greatest, 0, 1},
		{2, 0, 1, 2}, {2, 0, 2, 1}, {2, 2, 3, 3}, {2, 1, 4, 2},
		{3, 4, 5, 6}, {3, 5, 5, 6}, {3, 0, 8, 4}, {3, 7, 14, 7},
		{3, 0, 2, 2}, {3, 5, 6, 3}, {3, 3, 9, 2},
		{3, 0, 7, 1}, {3, 3, 4, 1}, {3, 1, 12, 1},
		{4, 14, 15, 15}, {4, 0, 16, 8}, {4, 6, 22, 11},
		{4, 0, 3, 4}, {4, 12, 15, 7}, {4, 2, 5, 2}, {4, 8, 14, 3},
		{4, 0, 15, 1}, {4, 7, 8, 1}, {4, greatest, 0, 1}, {4, greatest, 14, 15},
	} {
		is(t, "Meet", Meet(x.depth, x.t, x.u), x.want)
		is(t, "Meet the other way round", Meet(x.depth, x.u, x.t), x.want)
	}
}

// firstOnBoth goes through both ways from the top, as long as they are one.
func firstOnBoth(a, b []int) int {
	node := 0
	for i := len(a) - 1; i >= 0 && a[i] == b[i]; i-- {
		node = a[i]
	}
	return node
}

// P7.2: where all pairs of threads meet, in trees of each depth.
func TestMeetOfMany(t *testing.T) {
	for depth := range deepest + 1 {
		for th := range 40 {
			for u := range 40 {
				is(t, "Meet", Meet(depth, th, u), firstOnBoth(pathOf(depth, th), pathOf(depth, u)))
			}
		}
	}
}

// P7.3: all ways end at the top, and are as long as the tree is deep; each next
// node is the parent, and one level further up.
func TestWaysEndAtTop(t *testing.T) {
	for depth := 1; depth <= deepest; depth++ {
		for _, th := range append(far(), 0, 1, 2, 3, 7, 8, 15, 16, 17, 40) {
			l := Path(depth, th)
			is(t, "the number of nodes", len(l), depth)
			is(t, "the first node", l[0], Leaf(depth, th))
			is(t, "the last node", l[len(l)-1], 1)
			for i, n := range l {
				is(t, "Level on the way", Level(n), depth-1-i)
				if i > 0 {
					is(t, "the next node", n, Parent(l[i-1]))
				}
			}
		}
	}
}

// P7.3: two that met stay together, and were apart ahead of it.
func TestMetStayTogether(t *testing.T) {
	for depth := 1; depth <= deepest; depth++ {
		for th := range 40 {
			for u := range 40 {
				a, b := Path(depth, th), Path(depth, u)
				at := slices.Index(a, Meet(depth, th, u))
				if at < 0 || !slices.Equal(a[at:], b[at:]) {
					t.Errorf("depth %d: %v and %v do not stay together from %d on", depth, a, b, Meet(depth, th, u))
				}
				for i := range at {
					if slices.Contains(b, a[i]) {
						t.Errorf("depth %d: %v and %v meet ahead of %d", depth, a, b, Meet(depth, th, u))
					}
				}
			}
		}
	}
}

// P7.1, P7.2: threads as many as twice the leaves take each leaf twice, and each
// node but the leaves' is on the ways of all that stand below it.
func TestEachLeafTwice(t *testing.T) {
	for depth := 1; depth <= deepest; depth++ {
		on := map[int]int{}
		for th := range 2 * leavesOf(depth) {
			for _, n := range Path(depth, th) {
				on[n]++
			}
		}
		is(t, "the number of nodes", len(on), nodesOf(depth))
		for n := 1; n <= nodesOf(depth); n++ {
			is(t, "the number of ways at a node", on[n], 2*leavesOf(depth)>>levels()[n])
		}
	}
}

// overwrite writes all over a list, and over the room behind its end.
func overwrite(l []int) {
	l = l[:cap(l)]
	for i := range l {
		l[i] = -77
	}
}

// LANGUAGE.md's rule 7: two ways that were answered share nothing, neither with
// each other nor with one that is answered later.
func TestWaysAreNewMemory(t *testing.T) {
	for depth := 1; depth <= deepest; depth++ {
		for th := range 2 * leavesOf(depth) {
			a, b, c := Path(depth, th), Path(depth, th), Path(depth, th^1)
			overwrite(a)
			want := pathOf(depth, th)
			if !slices.Equal(b, want) || !slices.Equal(c, want) {
				t.Errorf("depth %d, thread %d: %v and %v, want %v", depth, th, b, c, want)
			}
			overwrite(b)
			pathIs(t, depth, th, want...)
		}
	}
}

// R5: the same is answered again, also if something else was asked between.
func TestSameAgain(t *testing.T) {
	for depth := 1; depth <= deepest; depth++ {
		for th := range 20 {
			leaf, path, meet := Leaf(depth, th), Path(depth, th), Meet(depth, th, 3)
			for other := range deepest + 1 {
				Path(other, th+7)
				Meet(other, 5, th)
				Level(Leaf(other, th))
			}
			is(t, "Leaf again", Leaf(depth, th), leaf)
			is(t, "Meet again", Meet(depth, th, 3), meet)
			pathIs(t, depth, th, path...)
		}
	}
}

// Of depths that no tree has, and of threads below 0, nothing is promised; yet
// all calls end there, and none panics.
func TestAnyNumbers(t *testing.T) {
	ends := []int{least, least + 1, -3, -2, -1, 0, 4, 5, 62, 63, 64, 65, 66, 1 << 20, greatest - 1, greatest}
	for _, depth := range ends {
		for _, th := range ends {
			Leaf(depth, th)
			Path(depth, th)
			for _, u := range ends {
				Meet(depth, th, u)
			}
		}
	}
}
