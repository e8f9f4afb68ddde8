package tape

import (
	"math"
	"slices"
	"testing"
)

const (
	least    = math.MinInt
	greatest = math.MaxInt
)

// draws are numbers that a draw may be, the ends among them.
var draws = []int{7, -1, 0, least, greatest, 4, 5, -5, -6, least + 1, greatest - 1, 1}

func checkTape(t *testing.T, call string, got, want Tape) {
	t.Helper()
	if got.At != want.At || !slices.Equal(got.L, want.L) {
		t.Errorf("%s: the tape is %v, want %v", call, got, want)
	}
}

// spent answers tapes that are spent, in every way in which one may be.
func spent() []Tape {
	l := []Tape{
		{}, {L: []int{}}, {At: 1}, {At: -1}, {At: least}, {At: greatest}, {L: []int{}, At: 3},
	}
	for _, n := range []int{1, 3} {
		for _, at := range []int{n, n + 1, 2 * n, -1, -n, -2 * n, least, least + 1, greatest, greatest - 1} {
			l = append(l, Tape{L: []int{8, -8, 9}[:n], At: at})
		}
	}
	return l
}

// modulo is the document's modulo, said by counting: the number from 0 to n - 1
// that differs from v by a multiple of n. It is meant for small numbers only.
func modulo(v, n int) int {
	for v < 0 {
		v += n
	}
	for v >= n {
		v -= n
	}
	return v
}

// P4.1: Next answers the draw at At, and the tape with At one more, at the first
// draw, the last one, and all between.
func TestNext(t *testing.T) {
	for at, want := range draws {
		got, rest := Next(Tape{L: slices.Clone(draws), At: at})
		if got != want {
			t.Errorf("Next at %d: %d, want %d", at, got, want)
		}
		checkTape(t, "Next", rest, Tape{L: draws, At: at + 1})
	}
	got, rest := Next(Tape{L: []int{-3}})
	if got != -3 {
		t.Errorf("Next of a single draw: %d, want -3", got)
	}
	checkTape(t, "Next of a single draw", rest, Tape{L: []int{-3}, At: 1})
}

// P4.1, P4.2: of a spent tape Next and Below answer 0, Left answers 0, and every
// call answers it as it is.
func TestSpentTapes(t *testing.T) {
	for _, p := range spent() {
		if left := Left(p); left != 0 {
			t.Errorf("Left(%v): %d, want 0", p, left)
		}
		got, rest := Next(p)
		if got != 0 {
			t.Errorf("Next(%v): %d, want 0", p, got)
		}
		checkTape(t, "Next", rest, p)
		for _, n := range []int{least, -1, 0, 1, 2, 3, 100, greatest} {
			got, rest := Below(p, n)
			if got != 0 {
				t.Errorf("Below(%v, %d): %d, want 0", p, n, got)
			}
			checkTape(t, "Below", rest, p)
			checkTape(t, "Skip", Skip(p, n), p)
		}
	}
}

// P4.1: Below answers 0 and the tape as it is, if n is below 1.
func TestBelowWithoutRoom(t *testing.T) {
	for at := range draws {
		for _, n := range []int{0, -1, -5, least + 1, least} {
			p := Tape{L: draws, At: at}
			got, rest := Below(p, n)
			if got != 0 {
				t.Errorf("Below(at %d, %d): %d, want 0", at, n, got)
			}
			checkTape(t, "Below", rest, p)
		}
	}
}

// P4.1: Below answers the draw modulo n, also of one below 0, and Next's tape.
func TestBelow(t *testing.T) {
	for n := 1; n <= 12; n++ {
		for v := -30; v <= 30; v++ {
			p := Tape{L: []int{99, v, 98}, At: 1}
			got, rest := Below(p, n)
			if got != modulo(v, n) {
				t.Errorf("Below(%d, %d): %d, want %d", v, n, got, modulo(v, n))
			}
			checkTape(t, "Below", rest, Tape{L: p.L, At: 2})
		}
	}
}

// P4.1: Below at the ends of what an int holds, and at the document's example.
func TestBelowAtTheEnds(t *testing.T) {
	for _, c := range []struct{ v, n, want int }{
		{-1, 5, 4},
		{4, 5, 4}, {5, 5, 0}, {6, 5, 1}, {0, 5, 0}, {-5, 5, 0}, {-6, 5, 4},
		{least, 1, 0}, {greatest, 1, 0}, {-1, 1, 0},
		{least, 2, 0}, {greatest, 2, 1}, {least + 1, 2, 1},
		{least, 10, 2}, {greatest, 10, 7},
		{least, greatest, greatest - 1}, {least + 1, greatest, 0}, {least + 2, greatest, 1},
		{-1, greatest, greatest - 1}, {0, greatest, 0},
		{greatest, greatest, 0}, {greatest - 1, greatest, greatest - 1},
		{greatest, greatest - 1, 1}, {least, greatest - 1, greatest - 3},
		{least, 1 << 62, 0}, {-1, 1 << 62, 1<<62 - 1},
	} {
		got, rest := Below(Tape{L: []int{c.v}}, c.n)
		if got != c.want {
			t.Errorf("Below(%d, %d): %d, want %d", c.v, c.n, got, c.want)
		}
		checkTape(t, "Below", rest, Tape{L: []int{c.v}, At: 1})
	}
}

// P4.1: Left answers how many draws are left, and one fewer behind each Next.
func TestLeft(t *testing.T) {
	for n := range 5 {
		p := Tape{L: draws[:n]}
		for left := n; left > 0; left-- {
			if got := Left(p); got != left {
				t.Errorf("Left(%v): %d, want %d", p, got, left)
			}
			_, p = Next(p)
		}
		if got := Left(p); got != 0 {
			t.Errorf("Left(%v): %d, want 0", p, got)
		}
	}
}

// P4.1: Skip answers the tape behind n times Next: of none, of some, of all that
// are left, and of more.
func TestSkip(t *testing.T) {
	for at := range draws {
		p := Tape{L: draws, At: at}
		want := p
		for n := range len(draws) + 3 {
			checkTape(t, "Skip", Skip(p, n), want)
			_, want = Next(want)
		}
	}
}

// P4.1: Skip answers the tape itself, if n is below 1, and the spent one, if n is
// as great as can be.
func TestSkipAtTheEnds(t *testing.T) {
	for at := range draws {
		p := Tape{L: draws, At: at}
		for _, n := range []int{0, -1, -100, least + 1, least} {
			checkTape(t, "Skip", Skip(p, n), p)
		}
		for _, n := range []int{len(draws) - at, len(draws) - at + 1, 1 << 32, greatest - 1, greatest} {
			checkTape(t, "Skip", Skip(p, n), Tape{L: draws, At: len(draws)})
		}
	}
}

// P4.2: draws come in their order, each once, whether by Next or by Below, and
// behind them none comes any more.
func TestDrawsComeInOrder(t *testing.T) {
	for _, n := range []int{0, 1, 2, 300} {
		var l, got []int
		for i := range n {
			l = append(l, 1000+i*i)
		}
		p := Tape{L: l}
		for i := 0; Left(p) > 0; i++ {
			var draw int
			if i%3 == 1 {
				draw, p = Below(p, greatest)
			} else {
				draw, p = Next(p)
			}
			got = append(got, draw)
		}
		if !slices.Equal(got, l) {
			t.Errorf("the draws came as %v, want %v", got, l)
		}
		for range 3 {
			draw, rest := Next(p)
			if draw != 0 {
				t.Errorf("behind the last draw came %d", draw)
			}
			checkTape(t, "Next behind the last draw", rest, Tape{L: l, At: n})
			p = rest
		}
	}
}

// R4, and the rule on new memory: no call changes the tape that is handed in, and
// what is written into a tape that was answered is not seen in that one.
func TestTapesAreNotShared(t *testing.T) {
	for _, at := range []int{-1, 0, 2, len(draws) - 1, len(draws), greatest} {
		p := Tape{L: slices.Clone(draws), At: at}
		_, next := Next(p)
		_, below := Below(p, 5)
		_, none := Below(p, 0)
		answers := []Tape{next, below, none, Skip(p, -1), Skip(p, 0), Skip(p, 1), Skip(p, 100)}
		Left(p)
		checkTape(t, "what was handed in", p, Tape{L: draws, At: at})
		for _, a := range answers {
			for i := range a.L {
				a.L[i] += 3
			}
			_ = append(a.L[:0], 17)
			checkTape(t, "what was handed in", p, Tape{L: draws, At: at})
		}
	}
}

// R4: a tape whose list has room behind its draws has no draw there, and what
// stands there stays.
func TestRoomBehindTheDraws(t *testing.T) {
	room := slices.Clone(draws)
	p := Tape{L: room[:2], At: 1}
	_, p = Next(p)
	draw, p := Next(p)
	if draw != 0 || Left(p) != 0 || p.At != 2 || len(p.L) != 2 {
		t.Errorf("behind the draws: %d, %v", draw, p)
	}
	_ = append(p.L, 55)
	if !slices.Equal(room, draws) {
		t.Errorf("the room became %v, want %v", room, draws)
	}
}

// R5, R6: one tape answers the same again and again; a nil list is like an empty
// one.
func TestAgainAndAgain(t *testing.T) {
	p := Tape{L: draws, At: 3}
	for range 50 {
		draw, rest := Next(p)
		if draw != draws[3] || rest.At != 4 || Left(p) != len(draws)-3 {
			t.Fatalf("Next: %d, %v", draw, rest)
		}
	}
	a, x := Next(Tape{At: 2})
	b, y := Next(Tape{L: []int{}, At: 2})
	if a != b || x.At != y.At || len(x.L) != len(y.L) {
		t.Errorf("of a nil list %d, %v; of an empty one %d, %v", a, x, b, y)
	}
}
