package script

import (
	"math"
	"slices"
	"strings"
	"testing"

	"millstream/api"
	"millstream/config"
	"millstream/oper"
)

const (
	least    = math.MinInt
	greatest = math.MaxInt
)

// most is how many entries a script may have.
const most = 65536

// edges are numbers near to where bounds, bytes and ints end.
func edges() []int {
	return []int{
		least, least + 1, -1 << 32, -257, -256, -255, -2, -1, 0, 1, 2, 3, 4, 5, 9, 10, 15, 16,
		127, 128, 254, 255, 256, 257, 258, 259, 511, 512, 1 << 32, 1<<32 + 1, greatest - 1, greatest,
	}
}

// free and bounded are configs that may be.
func free() config.Config {
	return config.Config{Threads: 3, Items: 2, Backend: config.Cell, Width: 1}
}

func bounded() config.Config {
	c := free()
	c.Bounded, c.Lo, c.Hi, c.Init = true, -5, 5, 0
	return c
}

func add(v int) oper.Op { return oper.Op{Tag: oper.Add, V: v} }

func invoke(thread, item int, o oper.Op) Entry { return Entry{Invoke, thread, item, o} }

func pick(thread int) Entry { return Entry{Kind: Pick, Thread: thread} }

func tick() Entry { return Entry{Kind: Tick} }

func ticks(many int) []Entry { return slices.Repeat([]Entry{tick()}, many) }

// checks holds Check against what it has to tell.
func checks(t *testing.T, c config.Config, e Entry, want api.Errno) {
	t.Helper()
	if got := Check(c, e); got != want {
		t.Errorf("Check(%+v, %+v): %d, want %d", c, e, got, want)
	}
}

// alls holds All against what it has to tell.
func alls(t *testing.T, c config.Config, l []Entry, wantAt int, want api.Errno) {
	t.Helper()
	if at, got := All(c, l); at != wantAt || got != want {
		t.Errorf("All of %d entries: %d, %d, want %d, %d", len(l), at, got, wantAt, want)
	}
}

// encodes holds Encode against the bytes that are wanted.
func encodes(t *testing.T, l []Entry, want string) {
	t.Helper()
	if got := Encode(l); got != want {
		t.Errorf("Encode(%v): %q, want %q", l, got, want)
	}
}

// decodes holds Decode of a text that may be against the entries that are wanted.
func decodes(t *testing.T, s string, want ...Entry) {
	t.Helper()
	if l, at, wrong := Decode(s); !slices.Equal(l, want) || at != 0 || wrong != api.OK {
		t.Errorf("Decode(%q): %v, %d, %d, want %v", s, l, at, wrong, want)
	}
}

// fails holds Decode of a text that may not be against the place and the error.
func fails(t *testing.T, s string, wantAt int, want api.Errno) {
	t.Helper()
	if l, at, wrong := Decode(s); len(l) != 0 || at != wantAt || wrong != want {
		t.Errorf("Decode(%q): %v, %d, %d, want %d, %d", s, l, at, wrong, wantAt, want)
	}
}

// The kinds, the errors and the limit have the document's numbers.
func TestNumbersOfTheDocument(t *testing.T) {
	if Invoke != 1 || Pick != 2 || Tick != 3 {
		t.Errorf("the kinds are %d, %d, %d", Invoke, Pick, Tick)
	}
	errors := []api.Errno{api.ErrFull, api.ErrKind, api.ErrThread, api.ErrItem, api.ErrOp, api.ErrShort}
	if want := []api.Errno{2, 90, 91, 92, 93, 94}; !slices.Equal(errors, want) {
		t.Errorf("the errors are %v, want %v", errors, want)
	}
	if api.MaxScript != most {
		t.Errorf("MaxScript is %d", api.MaxScript)
	}
}

// The configs of the tests are ones of which something is promised.
func TestConfigsMayBe(t *testing.T) {
	for _, c := range []config.Config{free(), bounded()} {
		if wrong := config.Check(c); wrong != api.OK {
			t.Errorf("%+v: %d", c, wrong)
		}
	}
}

// P9.1: ordinary entries.
func TestCheckTakes(t *testing.T) {
	checks(t, free(), invoke(1, 1, add(7)), api.OK)
	checks(t, free(), pick(2), api.OK)
	checks(t, free(), tick(), api.OK)
	checks(t, bounded(), invoke(2, 0, oper.Op{Tag: oper.Put, V: -3}), api.OK)
	checks(t, bounded(), invoke(0, 1, oper.Op{Tag: oper.Take, V: 3}), api.OK)
}

// P9.1: kinds other than 1 to 3, whatever else is right.
func TestCheckKinds(t *testing.T) {
	for _, kind := range edges() {
		want := api.ErrKind
		if kind == 1 || kind == 2 || kind == 3 {
			want = api.OK
		}
		checks(t, free(), Entry{kind, 1, 1, add(1)}, want)
	}
	checks(t, free(), Entry{}, api.ErrKind)
}

// P9.1: threads of an Invoke and a Pick: -1, the first one, the last one, one
// beyond it, and further ones, of few threads and of many.
func TestCheckThreads(t *testing.T) {
	for threads := 1; threads <= 16; threads++ {
		c := free()
		c.Threads = threads
		for _, thread := range append(edges(), threads-1, threads, threads+1) {
			want := api.ErrThread
			if 0 <= thread && thread <= threads-1 {
				want = api.OK
			}
			checks(t, c, invoke(thread, 1, add(1)), want)
			checks(t, c, pick(thread), want)
			checks(t, c, Entry{Kind: Tick, Thread: thread}, api.OK)
		}
	}
}

// P9.1: items of an Invoke: -1, the first one, the last one, one beyond it, and
// further ones, of few items and of many.
func TestCheckItems(t *testing.T) {
	for items := 1; items <= 4; items++ {
		c := free()
		c.Items = items
		for _, item := range append(edges(), items-1, items, items+1) {
			want := api.ErrItem
			if 0 <= item && item <= items-1 {
				want = api.OK
			}
			checks(t, c, invoke(2, item, add(1)), want)
			checks(t, c, Entry{Kind: Pick, Thread: 2, Item: item}, api.OK)
			checks(t, c, Entry{Kind: Tick, Item: item}, api.OK)
		}
	}
}

// P9.1: threads are held against Threads and items against Items, not the other
// way.
func TestThreadsAreNoItems(t *testing.T) {
	few, many := free(), free()
	few.Threads, few.Items = 1, 4
	many.Threads, many.Items = 16, 1
	checks(t, few, invoke(0, 3, add(1)), api.OK)
	checks(t, few, invoke(3, 0, add(1)), api.ErrThread)
	checks(t, many, invoke(15, 0, add(1)), api.OK)
	checks(t, many, invoke(0, 15, add(1)), api.ErrItem)
}

// P9.1: ops, in bounded and unbounded configs, against the document's words of
// May.
func TestCheckOps(t *testing.T) {
	for _, tag := range append(edges(), 6, 7, 8) {
		for _, v := range edges() {
			o := oper.Op{Tag: tag, V: v}
			wantFree, wantBounded := api.ErrOp, api.ErrOp
			if 1 <= tag && tag <= 7 {
				wantFree = api.OK
			}
			if tag == 8 || tag == 9 && v >= 0 {
				wantBounded = api.OK
			}
			checks(t, free(), invoke(0, 0, o), wantFree)
			checks(t, bounded(), invoke(0, 0, o), wantBounded)
		}
	}
}

// P9.1: of a Tick nothing else is looked at, and of a Pick nothing but the
// thread.
func TestOtherFieldsAreNotLookedAt(t *testing.T) {
	for _, c := range []config.Config{free(), bounded()} {
		for _, n := range edges() {
			checks(t, c, Entry{Tick, n, n, oper.Op{Tag: n, V: n}}, api.OK)
			checks(t, c, Entry{Pick, 1, n, oper.Op{Tag: n, V: n}}, api.OK)
		}
	}
}

// P9.1: of several errors the first one is told.
func TestFirstErrorOfAnEntry(t *testing.T) {
	no := oper.Op{Tag: oper.Put}
	checks(t, free(), Entry{4, -1, -1, no}, api.ErrKind)
	checks(t, free(), Entry{0, 3, 0, add(1)}, api.ErrKind)
	checks(t, free(), invoke(3, 2, no), api.ErrThread)
	checks(t, free(), invoke(-1, -1, add(1)), api.ErrThread)
	checks(t, free(), invoke(3, 0, no), api.ErrThread)
	checks(t, free(), invoke(2, 2, no), api.ErrItem)
	checks(t, free(), invoke(0, -1, no), api.ErrItem)
	checks(t, free(), invoke(2, 1, no), api.ErrOp)
	checks(t, free(), Entry{Pick, 3, -1, no}, api.ErrThread)
}

// P9.1: a script that may be, and one without entries.
func TestAllTakes(t *testing.T) {
	alls(t, free(), []Entry{tick(), pick(1), invoke(2, 1, add(-4)), pick(2), tick()}, 0, api.OK)
	alls(t, bounded(), []Entry{invoke(0, 0, oper.Op{Tag: oper.Put, V: 1}), pick(0)}, 0, api.OK)
	alls(t, free(), nil, 0, api.OK)
	alls(t, free(), []Entry{}, 0, api.OK)
}

// P9.1: each error, at each place.
func TestAllTellsThePlace(t *testing.T) {
	faults := []struct {
		e    Entry
		want api.Errno
	}{
		{Entry{}, api.ErrKind},
		{Entry{Kind: 4}, api.ErrKind},
		{pick(3), api.ErrThread},
		{invoke(-1, 0, add(1)), api.ErrThread},
		{invoke(0, 2, add(1)), api.ErrItem},
		{invoke(0, 0, oper.Op{Tag: oper.Take, V: 1}), api.ErrOp},
	}
	good := []Entry{tick(), pick(1), invoke(2, 1, add(1)), tick(), pick(0)}
	for _, f := range faults {
		for at := range len(good) + 1 {
			alls(t, free(), slices.Insert(slices.Clone(good), at, f.e), at, f.want)
		}
	}
}

// P9.1: of several entries that may not be the first one is told, even if a
// later one's error is named ahead of its own.
func TestFirstWrongEntry(t *testing.T) {
	alls(t, free(), []Entry{pick(0), invoke(0, 0, oper.Op{}), pick(3), {}}, 1, api.ErrOp)
	alls(t, free(), []Entry{tick(), tick(), pick(3), invoke(0, 0, oper.Op{}), {}}, 2, api.ErrThread)
	alls(t, free(), []Entry{{}, pick(3)}, 0, api.ErrKind)
}

// P9.1: a config that may not be is told ahead of all else.
func TestAllTellsTheConfig(t *testing.T) {
	wide := free()
	wide.Width = 9
	outside := bounded()
	outside.Init = 6
	scripts := [][]Entry{nil, ticks(3), {tick(), {}}, ticks(most + 1), slices.Repeat([]Entry{{}}, most+1)}
	for _, l := range scripts {
		alls(t, config.Config{}, l, 0, api.ErrThreads)
		alls(t, wide, l, 0, api.ErrWidth)
		alls(t, outside, l, 0, api.ErrBounds)
	}
}

// P9.1: 65536 entries may be; of one more, and of many more, none is looked at.
func TestAllFull(t *testing.T) {
	alls(t, free(), ticks(most-1), 0, api.OK)
	alls(t, free(), ticks(most), 0, api.OK)
	alls(t, free(), ticks(most+1), 0, api.ErrFull)
	alls(t, free(), ticks(70000), 0, api.ErrFull)
	alls(t, free(), append(ticks(most-1), pick(3)), most-1, api.ErrThread)
	alls(t, free(), append(ticks(most), pick(3)), 0, api.ErrFull)
	alls(t, free(), append([]Entry{tick(), {}}, ticks(most-1)...), 0, api.ErrFull)
}

// P9.2: the document's example.
func TestExample(t *testing.T) { encodes(t, []Entry{pick(3)}, "\x02\x03") }

// P9.2: the bytes of each kind, and of entries one after another.
func TestEncode(t *testing.T) {
	long := invoke(1, 2, oper.Op{Tag: 9, V: 0x0102030405060708})
	bytes := "\x01\x01\x02\x09\x01\x02\x03\x04\x05\x06\x07\x08"
	encodes(t, []Entry{long}, bytes)
	encodes(t, []Entry{pick(0)}, "\x02\x00")
	encodes(t, []Entry{tick()}, "\x03")
	encodes(t, []Entry{tick(), long, pick(15), pick(2), tick(), long, tick()}, "\x03"+bytes+"\x02\x0f\x02\x02\x03"+bytes+"\x03")
	encodes(t, nil, "")
	encodes(t, []Entry{}, "")
}

// P9.2: entries that no config allows have bytes too.
func TestEncodeChecksNothing(t *testing.T) {
	encodes(t, []Entry{invoke(200, 100, oper.Op{})}, "\x01\xc8\x64"+strings.Repeat("\x00", 9))
	if got := Encode(ticks(70000)); got != strings.Repeat("\x03", 70000) {
		t.Errorf("70000 ticks have %d bytes", len(got))
	}
}

// P9.2: V has eight bytes, the highest one first, up to the ends of an int.
func TestEncodeV(t *testing.T) {
	for v, bytes := range values() {
		encodes(t, []Entry{invoke(0, 0, add(v))}, "\x01\x00\x00\x01"+bytes)
	}
}

// values answers numbers, and their eight bytes.
func values() map[int]string {
	return map[int]string{
		0:                     "\x00\x00\x00\x00\x00\x00\x00\x00",
		1:                     "\x00\x00\x00\x00\x00\x00\x00\x01",
		-1:                    "\xff\xff\xff\xff\xff\xff\xff\xff",
		-2:                    "\xff\xff\xff\xff\xff\xff\xff\xfe",
		255:                   "\x00\x00\x00\x00\x00\x00\x00\xff",
		256:                   "\x00\x00\x00\x00\x00\x00\x01\x00",
		-256:                  "\xff\xff\xff\xff\xff\xff\xff\x00",
		1 << 31:               "\x00\x00\x00\x00\x80\x00\x00\x00",
		1 << 32:               "\x00\x00\x00\x01\x00\x00\x00\x00",
		0x0123456789abcdef:    "\x01\x23\x45\x67\x89\xab\xcd\xef",
		-0x0123456789abcdef:   "\xfe\xdc\xba\x98\x76\x54\x32\x11",
		greatest:              "\x7f\xff\xff\xff\xff\xff\xff\xff",
		greatest - 1:          "\x7f\xff\xff\xff\xff\xff\xff\xfe",
		least:                 "\x80\x00\x00\x00\x00\x00\x00\x00",
		least + 1:             "\x80\x00\x00\x00\x00\x00\x00\x01",
		least + 0x00ff00ff00f: "\x80\x00\x00\x0f\xf0\x0f\xf0\x0f",
	}
}

// cuts answers numbers, and the byte of their lowest eight bits.
func cuts() map[int]string {
	return map[int]string{
		0: "\x00", 1: "\x01", 127: "\x7f", 128: "\x80", 255: "\xff", 256: "\x00", 257: "\x01", 258: "\x02",
		511: "\xff", 0x1234: "\x34", 1<<32 + 3: "\x03", greatest: "\xff", greatest - 1: "\xfe",
		-1: "\xff", -2: "\xfe", -128: "\x80", -255: "\x01", -256: "\x00", -257: "\xff", least: "\x00", least + 5: "\x05",
	}
}

// P9.2: of threads, items and tags below 0 and above 255 the lowest eight bits
// are taken, and nothing beside them changes.
func TestEncodeCuts(t *testing.T) {
	v := "\x00\x00\x00\x00\x00\x00\x00\x05"
	for n, b := range cuts() {
		encodes(t, []Entry{pick(n)}, "\x02"+b)
		encodes(t, []Entry{invoke(n, 1, add(5))}, "\x01"+b+"\x01\x01"+v)
		encodes(t, []Entry{invoke(1, n, add(5))}, "\x01\x01"+b+"\x01"+v)
		encodes(t, []Entry{invoke(1, 1, oper.Op{Tag: n, V: 5})}, "\x01\x01\x01"+b+v)
	}
}

// P9.2: entries of another kind have one byte, even where it is one of a kind.
func TestEncodeOtherKinds(t *testing.T) {
	for kind, b := range cuts() {
		if kind == Invoke {
			continue
		}
		encodes(t, []Entry{{kind, 7, 8, add(9)}}, b)
		encodes(t, []Entry{pick(1), {kind, 7, 8, add(9)}, pick(2)}, "\x02\x01"+b+"\x02\x02")
	}
	encodes(t, []Entry{{4, 7, 8, add(9)}, {7, 7, 8, add(9)}}, "\x04\x07")
}

// P9.2: a Tick's other fields have no bytes, nor have a Pick's but the thread.
func TestEncodeLeavesOut(t *testing.T) {
	encodes(t, []Entry{{Tick, 7, 8, add(9)}}, "\x03")
	encodes(t, []Entry{{Pick, 7, 8, add(9)}}, "\x02\x07")
}

// P9.3: the entries of each kind, and of several one after another.
func TestDecode(t *testing.T) {
	long := invoke(1, 2, oper.Op{Tag: 9, V: 0x0102030405060708})
	bytes := "\x01\x01\x02\x09\x01\x02\x03\x04\x05\x06\x07\x08"
	decodes(t, "")
	decodes(t, bytes, long)
	decodes(t, "\x02\x03", pick(3))
	decodes(t, "\x03", tick())
	decodes(t, "\x03"+bytes+"\x02\x0f\x02\x02\x03"+bytes+"\x03", tick(), long, pick(15), pick(2), tick(), long, tick())
	decodes(t, strings.Repeat("\x03", 70000), ticks(70000)...)
}

// P9.3: V is read from eight bytes, the highest one first, with its sign.
func TestDecodeV(t *testing.T) {
	for v, bytes := range values() {
		decodes(t, "\x01\x00\x00\x01"+bytes, invoke(0, 0, add(v)))
	}
}

// P9.3: threads, items and tags come as 0 to 255; none is checked.
func TestDecodeAllBytes(t *testing.T) {
	v := strings.Repeat("\x00", 8)
	for n := range 256 {
		b := string([]byte{byte(n)})
		decodes(t, "\x02"+b, pick(n))
		decodes(t, "\x01"+b+"\x02\x03"+v, invoke(n, 2, oper.Op{Tag: 3}))
		decodes(t, "\x01\x01"+b+"\x03"+v, invoke(1, n, oper.Op{Tag: 3}))
		decodes(t, "\x01\x01\x02"+b+v, invoke(1, 2, oper.Op{Tag: n}))
	}
	decodes(t, "\x01"+strings.Repeat("\xff", 11), invoke(255, 255, oper.Op{Tag: 255, V: -1}))
}

// whole are texts of entries that lack nothing, to stand ahead of others.
func whole() []string {
	long := "\x01\x00\x01\x02\x03\x02\x01\x00\x04\xff\x00\x05"
	return []string{"", "\x03", "\x02\x00", "\x02\xff", long, long + long, "\x03\x03" + long + "\x02\x04\x03"}
}

// P9.3: first bytes other than 1 to 3, alone and behind entries that are whole,
// with nothing and with bytes behind them.
func TestDecodeKinds(t *testing.T) {
	for n := range 256 {
		if n >= 1 && n <= 3 {
			continue
		}
		b := string([]byte{byte(n)})
		for _, ahead := range whole() {
			for _, behind := range []string{"", "\x03", "\x01", b, strings.Repeat("\x02", 20)} {
				fails(t, ahead+b+behind, len(ahead), api.ErrKind)
			}
		}
	}
}

// P9.3: bytes that lack, at each place within each kind of entry, alone and
// behind entries that are whole.
func TestDecodeShort(t *testing.T) {
	long := "\x01\x03\x02\x01\x01\x02\x03\x04\x03\x02\x01\x02"
	for _, ahead := range whole() {
		for size := 1; size < len(long); size++ {
			fails(t, ahead+long[:size], len(ahead), api.ErrShort)
			fails(t, ahead+"\x01"+strings.Repeat("\xff", size-1), len(ahead), api.ErrShort)
			fails(t, ahead+"\x01"+strings.Repeat("\x00", size-1), len(ahead), api.ErrShort)
		}
		fails(t, ahead+"\x02", len(ahead), api.ErrShort)
	}
}

// P9.3: of several entries that are wrong the first one is told.
func TestDecodeFirstWrong(t *testing.T) {
	fails(t, "\x03\x00\x04\x02", 1, api.ErrKind)
	fails(t, "\x02\x00\x05\x01", 2, api.ErrKind)
	// A byte that would be no kind may be another one's thread.
	fails(t, "\x02\x00\x02", 2, api.ErrShort)
	fails(t, "\x01\x00\x00", 0, api.ErrShort)
}

// P9.4: what is encoded is decoded: entries all of whose numbers have bytes.
func TestEncodedIsDecoded(t *testing.T) {
	var all []Entry
	for _, n := range []int{0, 1, 2, 3, 4, 15, 127, 128, 255} {
		all = append(all, tick(), pick(n))
		for _, v := range edges() {
			all = append(all, invoke(n, 255-n, oper.Op{Tag: (n + 7) % 256, V: v}))
		}
	}
	for i, e := range all {
		decodes(t, Encode([]Entry{e}), e)
		decodes(t, Encode(all[i:]), all[i:]...)
	}
	decodes(t, Encode(nil))
}

// P9.4: what an entry may be is decoded, whatever script.Check asks.
func TestCheckedIsDecoded(t *testing.T) {
	for thread := range 16 {
		for item := range 4 {
			for tag := oper.Add; tag <= oper.Take; tag++ {
				l := []Entry{invoke(thread, item, oper.Op{Tag: tag, V: -thread}), pick(thread), tick()}
				decodes(t, Encode(l), l...)
			}
		}
	}
}

// texts tells many texts of a length, made of bytes around those of the kinds.
func texts(length int, visit func(string)) {
	bytes := make([]byte, length)
	state := uint32(1)
	for range 3000 {
		for i := range bytes {
			state = state*1664525 + 1013904223
			bytes[i] = byte(state >> 24)
			// Most bytes are near to the kinds, so that many texts are whole.
			if state>>16&7 != 0 {
				bytes[i] = bytes[i]%3 + 1
			}
		}
		visit(string(bytes))
	}
}

// P9.4: what is decoded is encoded into the same bytes. P9.3: what is not has
// its wrong entry behind entries that are decoded.
func TestDecodedIsEncoded(t *testing.T) {
	good, bad := 0, 0
	for length := range 40 {
		texts(length, func(s string) {
			l, at, wrong := Decode(s)
			if wrong == api.OK {
				good++
				encodes(t, l, s)
				return
			}
			bad++
			ahead, _, still := Decode(s[:at])
			if len(l) != 0 || still != api.OK {
				t.Errorf("Decode(%q): %v, %d, %d", s, l, at, wrong)
			}
			encodes(t, ahead, s[:at])
			fails(t, s[at:], 0, wrong)
		})
	}
	if good < 1000 || bad < 1000 {
		t.Errorf("%d texts were whole, and %d not", good, bad)
	}
}

// R4: what is handed in is not changed.
func TestNothingHandedInChanges(t *testing.T) {
	l := []Entry{{300, -1, 5, add(2)}, invoke(300, -1, oper.Op{Tag: 257, V: -9}), {Pick, 256, 9, add(1)}, {Tick, 1, 2, add(3)}}
	before := slices.Clone(l)
	Encode(l)
	All(free(), l)
	if !slices.Equal(l, before) {
		t.Errorf("%v is %v now", before, l)
	}
}

// Lists that are answered are new: who writes into one changes no other one.
func TestAnswersAreNew(t *testing.T) {
	s := "\x03\x02\x01"
	l, _, _ := Decode(s)
	l[0] = pick(9)
	decodes(t, s, tick(), pick(1))
}
