package packet

import (
	"slices"

	"wayleave/api"
	"wayleave/four"
	"wayleave/link"
	"wayleave/port"
	"wayleave/six"
)

// How many bytes each header has that is laid.
const (
	fourHead = 20
	sixHead  = 40
	tcpHead  = 20
	udpHead  = 8
)

// At which byte of a segment's header each part begins.
const (
	atSport  = 0
	atDport  = 2
	tcpSize  = 12 // how many times four bytes the header has, in the upper four bits
	tcpFlags = 13
	udpTotal = 4
)

const (
	hops     = 64
	most     = 1<<16 - 1 // the greatest port, and how many bytes an IP packet has at most
	allFlags = api.Fin | api.Syn | api.Rst | api.Psh | api.Ack | api.Urg
	few      = 4 // how many bytes of an address of IPv4 count
)

// Make is the frame with the link's header l that carries a segment of the tuple t, with the load.
func Make(l api.Link, t api.Tuple, flags int, load []byte) ([]byte, api.Errno) {
	l.Type = api.TypeFour
	heads := fourHead
	if t.Src.Six {
		l.Type, heads = api.TypeSix, sixHead
	}
	heads += segHead(t.Proto)
	b, e := link.Put(l)
	if e != api.OK || !mayBe(t, flags) {
		return nil, api.ErrArg
	}
	if len(load) > most-heads {
		return nil, api.ErrLong
	}
	return slices.Concat(b, netHeader(t, heads+len(load)), segment(t, flags, load)), api.OK
}

// netHeader is the IP header of a packet of total bytes.
func netHeader(t api.Tuple, total int) []byte {
	var b []byte
	if t.Src.Six {
		b, _ = six.Put(api.Six{Head: sixHead, Total: total, Hop: hops, Proto: t.Proto, Src: t.Src, Dst: t.Dst})
	} else {
		b, _ = four.Put(api.Four{Head: fourHead, Total: total, Keep: true, Ttl: hops, Proto: t.Proto, Src: t.Src, Dst: t.Dst})
	}
	return b
}

// segment is a header without options, with its checksum, and the load.
func segment(t api.Tuple, flags int, load []byte) []byte {
	b := make([]byte, segHead(t.Proto), segHead(t.Proto)+len(load))
	lay(b, atSport, t.Sport)
	lay(b, atDport, t.Dport)
	if t.Proto == api.ProtoTcp {
		b[tcpSize], b[tcpFlags] = tcpHead/4<<4, byte(flags)
	} else {
		lay(b, udpTotal, udpHead+len(load))
	}
	return port.Fill(t.Src, t.Dst, t.Proto, append(b, load...))
}

// segHead is how many bytes the header of a segment of the protocol has.
func segHead(proto int) int {
	if proto == api.ProtoTcp {
		return tcpHead
	}
	return udpHead
}

// mayBe tells whether a segment can be made of the tuple and the flags.
func mayBe(t api.Tuple, flags int) bool {
	return t.Src.Six == t.Dst.Six && isOfFamily(t.Src) && isOfFamily(t.Dst) &&
		isPort(t.Proto) && within(t.Sport, most) && within(t.Dport, most) &&
		within(flags, flagsOf(t.Proto))
}

// flagsOf is all the flags that a segment of the protocol can have.
func flagsOf(proto int) int {
	if proto == api.ProtoTcp {
		return allFlags
	}
	return 0
}

// isOfFamily tells whether a is an address of IPv6, or one of IPv4 with nothing behind its bytes.
func isOfFamily(a api.Addr) bool {
	var short api.Addr
	copy(short.B[:few], a.B[:])
	return a.Six || a == short
}

// within tells whether n is from 0 to high.
func within(n, high int) bool { return n >= 0 && n <= high }

// lay puts n in two bytes of b, from byte at on.
func lay(b []byte, at, n int) { b[at], b[at+1] = byte(n>>8), byte(n) }
