package oper

import (
	"math"
	"math/big"
	"testing"
)

const (
	least    = math.MinInt
	greatest = math.MaxInt
)

// edges are numbers near to where sums, differences and comparisons turn.
var edges = []int{
	least, least + 1, least + 2, least / 2, least/2 - 1, -9, -2, -1,
	0, 1, 2, 3, 9, greatest / 2, greatest/2 + 1, greatest - 2, greatest - 1, greatest,
}

type row struct {
	tag, v, x, lo, hi int
	want              int
	does              bool
}

func checkRows(t *testing.T, rows []row) {
	t.Helper()
	for _, r := range rows {
		got, does := Apply(Op{Tag: r.tag, V: r.v}, r.x, r.lo, r.hi)
		if got != r.want || does != r.does {
			t.Errorf("Apply({%d %d}, %d, %d, %d) = %d, %t, want %d, %t", r.tag, r.v, r.x, r.lo, r.hi, got, does, r.want, r.does)
		}
	}
}

// everyApply goes through all edges as V, x, lo and hi.
func everyApply(visit func(v, x, lo, hi int)) {
	for _, v := range edges {
		for _, x := range edges {
			for _, lo := range edges {
				for _, hi := range edges {
					visit(v, x, lo, hi)
				}
			}
		}
	}
}

func wide(n int) *big.Int { return big.NewInt(int64(n)) }

// P1.1: the tags have the numbers that the document gives them.
func TestTags(t *testing.T) {
	for i, tag := range []int{Add, Sub, Or, And, Max, Min, Swap, Put, Take} {
		if tag != i+1 {
			t.Errorf("tag at %d is %d", i, tag)
		}
	}
}

// P1.1: known is 1 to 9, and nothing else.
func TestKnown(t *testing.T) {
	for tag := -300; tag <= 300; tag++ {
		if want := tag >= 1 && tag <= 9; Known(tag) != want {
			t.Errorf("Known(%d) = %t", tag, !want)
		}
	}
	for _, tag := range []int{least, least + 1, least + 9, greatest, 1 << 32, 1<<32 + 1, 1<<8 + 9} {
		if Known(tag) {
			t.Errorf("Known(%d)", tag)
		}
	}
}

// P1.1: which ops may be done to which cells.
func TestMay(t *testing.T) {
	for _, v := range edges {
		for tag := -20; tag <= 20; tag++ {
			checkMay(t, Op{Tag: tag, V: v})
		}
		for _, tag := range []int{least, greatest, 1<<32 + 1, 1<<32 + 8, 1<<8 + 9} {
			checkMay(t, Op{Tag: tag, V: v})
		}
	}
}

func checkMay(t *testing.T, o Op) {
	t.Helper()
	if want := o.Tag == 8 || o.Tag == 9 && o.V >= 0; May(o, true) != want {
		t.Errorf("May(%v, true) = %t", o, !want)
	}
	if want := o.Tag >= 1 && o.Tag <= 7; May(o, false) != want {
		t.Errorf("May(%v, false) = %t", o, !want)
	}
}

// P1.2: ops of cells that have no bounds, and what goes round at 2^64.
func TestApplyUnbounded(t *testing.T) {
	checkRows(t, []row{
		{Add, 3, 5, 0, 0, 8, true},
		{Add, -8, 5, 0, 0, -3, true},
		{Add, 0, 5, 0, 0, 5, true},
		{Add, 1, greatest, 0, 0, least, true},
		{Add, greatest, greatest, 0, 0, -2, true},
		{Add, -1, least, 0, 0, greatest, true},
		{Add, least, least, 0, 0, 0, true},
		{Sub, 3, 5, 0, 0, 2, true},
		{Sub, -3, 5, 0, 0, 8, true},
		{Sub, 0, 5, 0, 0, 5, true},
		{Sub, 1, least, 0, 0, greatest, true},
		{Sub, -1, greatest, 0, 0, least, true},
		{Sub, least, 0, 0, 0, least, true},
		{Sub, least, -1, 0, 0, greatest, true},
		{Sub, least, least, 0, 0, 0, true},
		{Sub, greatest, -2, 0, 0, greatest, true},
		{Or, 6, 9, 0, 0, 15, true},
		{Or, 6, 12, 0, 0, 14, true},
		{Or, least, 1, 0, 0, least + 1, true},
		{And, 6, 12, 0, 0, 4, true},
		{And, -1, -9, 0, 0, -9, true},
		{And, least, greatest, 0, 0, 0, true},
		{Max, 3, -5, 0, 0, 3, true},
		{Max, -5, 3, 0, 0, 3, true},
		{Max, least, greatest, 0, 0, greatest, true},
		{Max, 4, 4, 0, 0, 4, true},
		{Min, 3, -5, 0, 0, -5, true},
		{Min, -5, 3, 0, 0, -5, true},
		{Min, greatest, least, 0, 0, least, true},
		{Min, 4, 4, 0, 0, 4, true},
		{Swap, 3, -5, 0, 0, 3, true},
		{Swap, least, greatest, 0, 0, least, true},
		{Swap, 4, 4, 0, 0, 4, true},
	})
}

// P1.2: lo and hi say nothing to ops other than Put and Take.
func TestBoundsBindOnlyPutAndTake(t *testing.T) {
	for tag := Add; tag <= Swap; tag++ {
		everyApply(func(v, x, lo, hi int) {
			o := Op{Tag: tag, V: v}
			free, _ := Apply(o, x, least, greatest)
			if got, does := Apply(o, x, lo, hi); got != free || !does {
				t.Fatalf("Apply(%v, %d, %d, %d) = %d, %t", o, x, lo, hi, got, does)
			}
		})
	}
}

// P1.2: Put, at, below and above lo and hi, and where 64 bits don't hold the sum.
func TestApplyPut(t *testing.T) {
	checkRows(t, []row{
		{Put, 7, 3, 0, 9, 3, false},
		{Put, 3, 5, 0, 8, 8, true},
		{Put, 4, 5, 0, 8, 5, false},
		{Put, -5, 5, 0, 8, 0, true},
		{Put, -6, 5, 0, 8, 5, false},
		{Put, 0, 0, 0, 8, 0, true},
		{Put, 0, 8, 0, 8, 8, true},
		{Put, 0, 9, 0, 8, 9, false},
		{Put, -1, 9, 0, 8, 8, true},
		{Put, 0, -1, 0, 8, -1, false},
		{Put, 1, -1, 0, 8, 0, true},
		{Put, 0, 5, 8, 0, 5, false},
		{Put, 1, greatest, least, greatest, greatest, false},
		{Put, greatest, greatest, least, greatest, greatest, false},
		{Put, -1, least, least, greatest, least, false},
		{Put, least, -1, least, greatest, -1, false},
		{Put, least, least, least, greatest, least, false},
		{Put, least, 0, least, greatest, least, true},
		{Put, least, greatest, least, greatest, -1, true},
		{Put, greatest, 0, least, greatest, greatest, true},
		{Put, greatest, least, least, greatest, -1, true},
	})
}

// P1.2: a Put does just what exact numbers say.
func TestApplyPutExactly(t *testing.T) {
	everyApply(func(v, x, lo, hi int) {
		want, wantDoes := x, false
		sum := new(big.Int).Add(wide(x), wide(v))
		if sum.Cmp(wide(lo)) >= 0 && sum.Cmp(wide(hi)) <= 0 {
			want, wantDoes = int(sum.Int64()), true
		}
		if got, does := Apply(Op{Tag: Put, V: v}, x, lo, hi); got != want || does != wantDoes {
			t.Fatalf("Put %d, %d, %d, %d: %d, %t, want %d, %t", v, x, lo, hi, got, does, want, wantDoes)
		}
	})
}

// P1.2: Take, at, below and above lo and hi, V below 0, and where 64 bits don't
// hold x less lo.
func TestApplyTake(t *testing.T) {
	checkRows(t, []row{
		{Take, 5, 3, 0, 9, 0, true},
		{Take, 3, 5, 0, 9, 2, true},
		{Take, 5, 5, 0, 9, 0, true},
		{Take, 4, 5, 2, 9, 2, true},
		{Take, 3, 5, 2, 9, 2, true},
		{Take, 2, 5, 2, 9, 3, true},
		{Take, 0, 5, 2, 9, 5, true},
		{Take, 0, 2, 2, 9, 2, true},
		{Take, 3, 2, 2, 9, 2, true},
		{Take, 0, 1, 2, 9, 1, false},
		{Take, 3, 1, 2, 9, 1, false},
		{Take, 3, 12, 2, 9, 9, true},
		{Take, 1, 12, 2, 9, 11, true},
		{Take, 3, 5, 2, 0, 2, true},
		{Take, -1, 5, 0, 9, 5, false},
		{Take, -1, 0, 0, 9, 0, false},
		{Take, least, 5, 0, 9, 5, false},
		{Take, greatest, greatest, least, greatest, 0, true},
		{Take, 1, greatest, least, greatest, greatest - 1, true},
		{Take, greatest, 0, least, greatest, least + 1, true},
		{Take, greatest, -1, least, greatest, least, true},
		{Take, greatest, -2, least, greatest, least, true},
		{Take, greatest, 5, -9, greatest, -9, true},
		{Take, 1, least, greatest, greatest, least, false},
	})
}

// P1.2: a Take does just what exact numbers say.
func TestApplyTakeExactly(t *testing.T) {
	everyApply(func(v, x, lo, hi int) {
		want, wantDoes := x, false
		if v >= 0 && x >= lo {
			part := new(big.Int).Sub(wide(x), wide(lo))
			if part.Cmp(wide(v)) > 0 {
				part = wide(v)
			}
			want, wantDoes = int(part.Sub(wide(x), part).Int64()), true
		}
		if got, does := Apply(Op{Tag: Take, V: v}, x, lo, hi); got != want || does != wantDoes {
			t.Fatalf("Take %d, %d, %d, %d: %d, %t, want %d, %t", v, x, lo, hi, got, does, want, wantDoes)
		}
	})
}

// P1.2: tags that are none of 1 to 9 are refused, and leave the cell.
func TestApplyOtherTags(t *testing.T) {
	for _, tag := range []int{0, -1, -2, -9, 10, 11, 100, 1<<8 + 1, 1<<32 + 1, 1<<32 + 8, least, least + 9, greatest} {
		for _, v := range edges {
			for _, x := range edges {
				if got, does := Apply(Op{Tag: tag, V: v}, x, least, greatest); got != x || does {
					t.Errorf("Apply({%d %d}, %d) = %d, %t", tag, v, x, got, does)
				}
			}
		}
	}
}

// P1.3: a Put or Take never leaves lo to hi, if x is within.
func TestPutAndTakeStayWithin(t *testing.T) {
	within := 0
	for _, tag := range []int{Put, Take} {
		everyApply(func(v, x, lo, hi int) {
			if x < lo || x > hi {
				return
			}
			within++
			if got, _ := Apply(Op{Tag: tag, V: v}, x, lo, hi); got < lo || got > hi {
				t.Fatalf("Apply({%d %d}, %d, %d, %d) = %d", tag, v, x, lo, hi, got)
			}
		})
	}
	if within == 0 {
		t.Error("no cell was within its bounds")
	}
}
