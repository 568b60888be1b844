package cursor

import (
	"math"

	"wayleave/api"
)

// gaveUp is what the inner reading of a plan panics with: the reader's fault.
type gaveUp api.Spot

// Scan is the pieces that the plan reads from the whole of b, or the first fault.
func Scan(b []byte, plan []api.Item) (l []api.Piece, s api.Spot) {
	defer func() {
		x := recover()
		if x == nil {
			return
		}
		g, ok := x.(gaveUp)
		if !ok {
			panic(x)
		}
		l, s = nil, api.Spot(g)
	}()
	r := New(b)
	for _, t := range plan {
		l = append(l, read(r, t))
	}
	r.End()
	goOn(r)
	return l, api.Spot{}
}

// Lay is the bytes that Scan reads as these pieces.
func Lay(plan []api.Item, l []api.Piece) ([]byte, api.Errno) {
	if len(l) != len(plan) {
		return nil, api.ErrArg
	}
	w := NewWriter(math.MaxInt)
	for i, t := range plan {
		if !mayBe(t) || !isOf(t, l[i]) {
			return nil, api.ErrArg
		}
		lay(w, t, l[i])
	}
	return w.Out()
}

// mayBe tells whether a plan may have the item.
func mayBe(t api.Item) bool {
	switch t.Kind {
	case api.ItNum:
		return sized(t.N)
	case api.ItVar:
		return true
	case api.ItBytes, api.ItText:
		return t.N >= 0
	}
	return false
}

// isOf tells whether the piece is one of an item that may be.
func isOf(t api.Item, p api.Piece) bool {
	switch t.Kind {
	case api.ItNum:
		return p.N>>(8*t.N) == 0 && len(p.B) == 0
	case api.ItVar:
		return len(p.B) == 0
	case api.ItBytes:
		return len(p.B) == t.N && p.N == 0
	}
	return len(p.B) <= t.N && p.N == 0
}

// read is the item's piece, read where r is; it gives up where none can be read.
func read(r *Reader, t api.Item) api.Piece {
	// Asked first, as the reader's calls have other faults of other items.
	if !mayBe(t) {
		r.fail(api.ErrArg)
	}
	p := api.Piece{}
	switch t.Kind {
	case api.ItNum:
		p.N = r.Num(t.N, t.Big)
	case api.ItVar:
		p.N = r.Var()
	case api.ItBytes:
		p.B = r.Take(t.N)
	case api.ItText:
		p.B = r.Text(t.N)
	}
	goOn(r)
	return p
}

// goOn gives up, if r has a fault.
func goOn(r *Reader) {
	if r.failed() {
		panic(gaveUp(r.fault))
	}
}

// lay writes a piece of the item.
func lay(w *Writer, t api.Item, p api.Piece) {
	switch t.Kind {
	case api.ItNum:
		w.Num(p.N, t.N, t.Big)
	case api.ItVar:
		w.Var(p.N)
	case api.ItBytes:
		w.Bytes(p.B)
	case api.ItText:
		w.Text(p.B)
	}
}
