package cursor

import (
	"bytes"

	"wayleave/api"
	"wayleave/octet"
	"wayleave/varint"
)

// Writer writes at most so many bytes, one behind the other, till it has a fault.
type Writer struct {
	most  int
	b     []byte
	fault api.Errno
}

// NewWriter is a writer of nothing, with a bound.
func NewWriter(most int) *Writer { return &Writer{most: max(most, 0)} }

// Bytes writes b.
func (w *Writer) Bytes(b []byte) {
	if w.fits(len(b)) {
		w.b = append(w.b, b...)
	}
}

// Num writes n in so many bytes.
func (w *Writer) Num(n uint64, size int, big bool) {
	if !sized(size) {
		w.fail(api.ErrArg)
	}
	w.Bytes(octet.Put(n, size, big))
}

// Var writes the varint of n.
func (w *Writer) Var(n uint64) { w.Bytes(varint.Put(n)) }

// Text writes a varint of how many bytes b has, and these, both or nothing.
func (w *Writer) Text(b []byte) {
	head := varint.Put(uint64(len(b)))
	if w.fits(len(head) + len(b)) {
		w.b = append(append(w.b, head...), b...)
	}
}

// Out is all that was written, or the fault.
func (w *Writer) Out() ([]byte, api.Errno) {
	if w.fault != api.OK {
		return nil, w.fault
	}
	return bytes.Clone(w.b), api.OK
}

// fail gives w a fault, if it has none yet.
func (w *Writer) fail(e api.Errno) {
	if w.fault == api.OK {
		w.fault = e
	}
}

// fits tells whether n more bytes may be written; if there is no room for them that is a fault.
func (w *Writer) fits(n int) bool {
	if n > w.most-len(w.b) {
		w.fail(api.ErrLong)
	}
	return w.fault == api.OK
}
