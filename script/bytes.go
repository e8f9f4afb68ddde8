package script

// How many bytes numbers have.
const (
	short = 1
	long  = 8
)

// through hands each number of the entry that has bytes on, in their order, with
// how many they are, and answers the entry of what comes back. Encode and Decode
// both go this way, so that what one writes is what the other one reads.
func through(e Entry, pass func(n, size int) int) Entry {
	// A kind that comes back tells which numbers are behind it.
	e.Kind = pass(e.Kind, short)
	if e.Kind == Invoke || e.Kind == Pick {
		e.Thread = pass(e.Thread, short)
	}
	if e.Kind == Invoke {
		e.Item = pass(e.Item, short)
		e.Op.Tag = pass(e.Op.Tag, short)
		e.Op.V = pass(e.Op.V, long)
	}
	return e
}

// writer has the bytes that were put so far.
type writer struct{ bytes []byte }

// put writes the number's lowest bytes, the highest one of them first. It
// answers the whole number: of one that is cut nothing else changes.
func (w *writer) put(n, size int) int {
	for i := size - 1; i >= 0; i-- {
		w.bytes = append(w.bytes, byte(n>>(8*i)))
	}
	return n
}

// reader is a text, the place up to which it is read, and whether more was asked
// for than there is.
type reader struct {
	text  string
	at    int
	lacks bool
}

// take reads a number of that many bytes, whatever was there ahead of it.
func (r *reader) take(_, size int) int {
	if len(r.text)-r.at < size {
		r.lacks = true
		return 0
	}
	n := 0
	for range size {
		n = n<<8 | int(r.text[r.at])
		r.at++
	}
	return n
}
