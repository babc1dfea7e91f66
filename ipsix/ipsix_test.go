package ipsix

import (
	"fmt"
	"math"
	"math/rand"
	"slices"
	"strconv"
	"strings"
	"testing"

	"rillmeter/api"
)

const (
	src = "\x20\x01\x0d\xb8\x00\x00\x00\x00\x00\x00\x00\x00\x00\x00\x00\x01"
	dst = "\x20\x01\x0d\xb8\x00\x00\x00\x00\x00\x00\x00\x00\x00\x00\x00\x02"
)

var (
	bodies   = []string{"", "x", "\x00", "\xff\xff", "\x2b\x00\x3c\x00", "é€", "a body of some more bytes than the forty that a header has"}
	extKinds = []int{0, 43, 44, 60}
)

// part is a number of a header: how great it may be, and where it is kept.
type part struct {
	name     string
	greatest int
	in       func(h *Header) *int
}

func parts() []part {
	return []part{
		{"Class", 255, func(h *Header) *int { return &h.Class }},
		{"Label", 1<<20 - 1, func(h *Header) *int { return &h.Label }},
		{"Hop", 255, func(h *Header) *int { return &h.Hop }},
		{"Proto", 255, func(h *Header) *int { return &h.Proto }},
	}
}

func isExtension(kind int) bool { return slices.Contains(extKinds, kind) }

// two writes a number of two bytes by hand, so that the tests do not lean on layer 4.
func two(n int) string { return string([]byte{byte(n >> 8), byte(n)}) }

func one(n int) string { return string([]byte{byte(n)}) }

// data is so long, and no two bytes of it that stand near each other are the same.
func data(length int) string {
	some := make([]byte, length)
	for i := range some {
		some[i] = byte(i*7 + 1)
	}
	return string(some)
}

// plainChain writes extensions from the last one to the first, as each tells what stands behind it.
func plainChain(chain []Ext, proto int) (string, int) {
	s, kind := "", proto
	for i := len(chain) - 1; i >= 0; i-- {
		ext := chain[i]
		if ext.Kind == 44 {
			s = one(kind) + ext.Data + s
		} else {
			s = one(kind) + one((len(ext.Data)+2)/8-1) + ext.Data + s
		}
		kind = ext.Kind
	}
	return s, kind
}

// plainBytes writes a header that is right, and its body.
func plainBytes(h Header, body string) string {
	chain, kind := plainChain(h.Chain, h.Proto)
	return one(6*16+h.Class/16) + one(h.Class%16*16+h.Label/65536) + two(h.Label%65536) +
		two(len(chain)+len(body)) + one(kind) + one(h.Hop) + h.Src + h.Dst + chain + body
}

func header(chain ...Ext) Header {
	return Header{Class: 0xab, Label: 0xcdef1, Hop: 64, Proto: 17, Src: src, Dst: dst, Chain: chain}
}

// extOf is a right extension of a kind with the shortest Data.
func extOf(kind int) Ext {
	if kind == 44 {
		return Ext{44, data(7)}
	}
	return Ext{kind, data(6)}
}

// chainOf are right extensions of these kinds.
func chainOf(kinds ...int) []Ext {
	var chain []Ext
	for _, kind := range kinds {
		chain = append(chain, extOf(kind))
	}
	return chain
}

// anyExt is a right extension of any kind that may stand at a place, with Data of any length.
func anyExt(source *rand.Rand, place int) Ext {
	kinds := extKinds
	if place > 0 {
		kinds = kinds[1:]
	}
	kind := kinds[source.Intn(len(kinds))]
	length := 7
	if kind != 44 {
		length = 6 + 8*source.Intn([]int{1, 3, 40, 256}[source.Intn(4)])
	}
	some := make([]byte, length)
	source.Read(some)
	return Ext{kind, string(some)}
}

func anyHeader(source *rand.Rand, extensions int) Header {
	some := make([]byte, 32)
	source.Read(some)
	h := Header{Src: string(some[:16]), Dst: string(some[16:])}
	for _, p := range parts() {
		*p.in(&h) = source.Intn(p.greatest + 1)
	}
	for isExtension(h.Proto) {
		h.Proto = source.Intn(256)
	}
	for place := range extensions {
		h.Chain = append(h.Chain, anyExt(source, place))
	}
	return h
}

// rightHeaders have each number at its edges, chains of each length, and some of any kind that are the same in each run.
func rightHeaders() []Header {
	list := []Header{{Proto: 59, Src: src, Dst: dst}, header(), header([]Ext{}...)}
	full := Header{Src: strings.Repeat("\xff", 16), Dst: strings.Repeat("\xff", 16)}
	for _, p := range parts() {
		*p.in(&full) = p.greatest
		for _, n := range []int{0, 1, p.greatest / 2, p.greatest/2 + 1, p.greatest - 1, p.greatest} {
			many, alone := header(chainOf(0, 44)...), Header{Proto: 1, Src: src, Dst: dst}
			if p.name == "Proto" && isExtension(n) {
				continue
			}
			*p.in(&many), *p.in(&alone) = n, n
			list = append(list, many, alone)
		}
	}
	list = append(list, full)
	for range 8 {
		full.Chain = append(full.Chain, Ext{60, strings.Repeat("\xff", 2046)})
	}
	list = append(list, full)
	for _, kind := range extKinds {
		list = append(list, header(chainOf(kind)...), header(chainOf(kind, 43, 44, 60, 44, 44, 60, 43)...))
	}
	source := rand.New(rand.NewSource(7))
	for extensions := range 9 {
		for range 6 {
			list = append(list, anyHeader(source, extensions))
		}
	}
	return list
}

// shown is the beginning of a header as text: a chain may be long.
func shown(h Header) string {
	text := strconv.QuoteToASCII(fmt.Sprint(h))
	return text[:min(len(text), 500)]
}

func same(a, b Header) bool {
	return a.Class == b.Class && a.Label == b.Label && a.Hop == b.Hop && a.Proto == b.Proto &&
		a.Src == b.Src && a.Dst == b.Dst && slices.Equal(a.Chain, b.Chain)
}

// mustWrite holds that a header is right, and is written as by hand.
func mustWrite(t *testing.T, h Header, body string) {
	t.Helper()
	if !Right(h) {
		t.Fatalf("not Right(%s)", shown(h))
	}
	if s, err := Put(h, body); s != plainBytes(h, body) || err != api.OK {
		t.Fatalf("Put(%s, body of %d) = %d bytes, %d", shown(h), len(body), len(s), err)
	}
}

// mustRefuse holds that a header is not right and is not written.
func mustRefuse(t *testing.T, h Header) {
	t.Helper()
	if Right(h) {
		t.Fatalf("Right(%s)", shown(h))
	}
	for _, body := range bodies {
		if s, err := Put(h, body); s != "" || err != api.ErrArg {
			t.Fatalf("Put(%s, %q) = %d bytes, %d", shown(h), body, len(s), err)
		}
	}
}

// mustTake holds that a header and its body are told.
func mustTake(t *testing.T, s string, h Header, body string) {
	t.Helper()
	if g, b, err := Take(s); !same(g, h) || b != body || err != api.OK {
		t.Fatalf("Take(%.120q) = %s, %.80q, %d, not %s, %.80q", s, shown(g), b, err, shown(h), body)
	}
}

// mustNotTake holds that nothing but the error is told.
func mustNotTake(t *testing.T, s string, want api.Errno) {
	t.Helper()
	if h, body, err := Take(s); !same(h, Header{}) || body != "" || err != want {
		t.Fatalf("Take(%.120q) = %s, %.80q, %d, not the error %d alone", s, shown(h), body, err, want)
	}
}

// P7.1: Right, Put and Piece.

func TestRightHeadersAreWritten(t *testing.T) {
	for _, h := range rightHeaders() {
		for _, body := range bodies {
			mustWrite(t, h, body)
		}
	}
}

func TestPutOfKnownHeaders(t *testing.T) {
	const from, to = "0123456789abcdef", "ghijklmnopqrstuv"
	for _, c := range []struct {
		h    Header
		body string
		want string
	}{
		{Header{Proto: 59, Src: from, Dst: to}, "",
			"\x60\x00\x00\x00\x00\x00\x3b\x00" + from + to},
		{Header{Class: 0x12, Label: 0x34567, Hop: 8, Proto: 6, Src: from, Dst: to}, "xyz",
			"\x61\x23\x45\x67\x00\x03\x06\x08" + from + to + "xyz"},
		{Header{Class: 255, Label: 1<<20 - 1, Hop: 255, Proto: 255, Src: from, Dst: to}, strings.Repeat("b", 258),
			"\x6f\xff\xff\xff\x01\x02\xff\xff" + from + to + strings.Repeat("b", 258)},
		{Header{Hop: 1, Proto: 17, Src: from, Dst: to, Chain: []Ext{{0, "hopopt"}}}, "",
			"\x60\x00\x00\x00\x00\x08\x00\x01" + from + to + "\x11\x00hopopt"},
		{Header{Hop: 1, Proto: 17, Src: from, Dst: to, Chain: []Ext{{43, "routingrouting"}, {44, "piece44"}}}, "body",
			"\x60\x00\x00\x00\x00\x1c\x2b\x01" + from + to + "\x2c\x01routingrouting" + "\x11piece44" + "body"},
		{Header{Hop: 1, Proto: 58, Src: from, Dst: to, Chain: []Ext{{0, "hopopt"}, {60, "target"}, {43, "routes"}, {60, data(2046)}}}, "b",
			"\x60\x00\x00\x00\x08\x19\x00\x01" + from + to + "\x3c\x00hopopt" + "\x2b\x00target" + "\x3c\x00routes" + "\x3a\xff" + data(2046) + "b"},
	} {
		if s, err := Put(c.h, c.body); s != c.want || err != api.OK {
			t.Fatalf("Put(%s, %q) = %.200q, %d", shown(c.h), c.body, s, err)
		}
		mustTake(t, c.want, c.h, c.body)
	}
}

func TestNumbersUpToTheGreatestAreRight(t *testing.T) {
	for _, p := range parts() {
		step := 1
		if p.name == "Label" {
			step = 127
		}
		for n := 0; n <= p.greatest; n += step {
			h := header(chainOf(43)...)
			*p.in(&h) = n
			if p.name == "Proto" && isExtension(n) {
				mustRefuse(t, h)
				continue
			}
			mustWrite(t, h, "b")
			mustTake(t, plainBytes(h, "b"), h, "b")
		}
	}
}

func TestNumbersThatAreWrong(t *testing.T) {
	for _, p := range parts() {
		beyond := p.greatest + 1
		for _, n := range []int{beyond, beyond + 1, beyond + 59, 2 * beyond, 1 << 32, 1<<32 + 6, math.MaxInt, -1, -2, -p.greatest, -beyond, math.MinInt} {
			for _, h := range []Header{header(), header(chainOf(0, 60)...), {Proto: 6, Src: src, Dst: dst}} {
				*p.in(&h) = n
				mustRefuse(t, h)
			}
		}
	}
}

func TestAProtoThatIsAnExtensionsKind(t *testing.T) {
	for _, kind := range extKinds {
		for _, chain := range [][]Ext{nil, chainOf(0), chainOf(43), chainOf(44), chainOf(60, 43), chainOf(0, 43, 44, 60, 43, 44, 60, 43)} {
			h := header(chain...)
			h.Proto = kind
			mustRefuse(t, h)
			h.Proto = kind + 1
			if !isExtension(kind + 1) {
				mustWrite(t, h, "body")
			}
		}
	}
}

func TestAddressesThatAreWrong(t *testing.T) {
	for _, length := range []int{0, 1, 4, 6, 8, 15, 17, 20, 31, 32, 300} {
		h := header()
		h.Src = strings.Repeat("a", length)
		mustRefuse(t, h)
		h.Dst = h.Src
		mustRefuse(t, h)
		h.Src = src
		mustRefuse(t, h)
	}
	// 32 bytes in all, but not 16 each.
	h := header()
	h.Src, h.Dst = src[1:], dst+"x"
	mustRefuse(t, h)
	h.Src, h.Dst = src+"x", dst[1:]
	mustRefuse(t, h)
	// Bytes count, not signs: 16 signs of two bytes, and eight.
	h.Src, h.Dst = strings.Repeat("é", 16), dst
	mustRefuse(t, h)
	h.Src, h.Dst = src, strings.Repeat("é", 16)
	mustRefuse(t, h)
	h.Src, h.Dst = strings.Repeat("é", 8), strings.Repeat("€", 5)+"a"
	mustWrite(t, h, "")
	mustRefuse(t, Header{})
	mustRefuse(t, Header{Proto: 6})
}

func TestChainsOfEachLength(t *testing.T) {
	for _, first := range extKinds {
		for _, further := range extKinds[1:] {
			var chain []Ext
			for length := 1; length <= 12; length++ {
				kind := further
				if length == 1 {
					kind = first
				}
				chain = append(chain, extOf(kind))
				if length > 8 {
					mustRefuse(t, header(chain...))
					continue
				}
				for _, body := range bodies {
					mustWrite(t, header(chain...), body)
				}
			}
		}
	}
	mustRefuse(t, header(slices.Repeat(chainOf(60), 300)...))
}

func TestAKindOfNoughtThatIsNotTheFirst(t *testing.T) {
	for length := 2; length <= 8; length++ {
		for _, kind := range extKinds[1:] {
			for at := 1; at < length; at++ {
				chain := slices.Repeat(chainOf(kind), length)
				chain[at] = extOf(0)
				mustRefuse(t, header(chain...))
				chain[0] = extOf(0)
				mustRefuse(t, header(chain...))
				chain[at] = extOf(kind)
				mustWrite(t, header(chain...), "body")
			}
		}
	}
}

func TestKindsThatAreNoExtensions(t *testing.T) {
	others := []int{-1, -44, -256, 256, 256 + 43, 256 + 44, 256 + 60, 1<<32 + 44, 1 << 32, math.MaxInt, math.MinInt}
	for kind := range 256 {
		if !isExtension(kind) {
			others = append(others, kind)
		}
	}
	for _, kind := range others {
		for _, length := range []int{0, 6, 7, 14} {
			wrong := Ext{kind, data(length)}
			mustRefuse(t, header(wrong))
			mustRefuse(t, header(extOf(0), wrong))
			mustRefuse(t, header(extOf(43), extOf(44), wrong, extOf(60)))
			mustRefuse(t, header(append(chainOf(0, 43, 44, 60, 43, 44, 60), wrong)...))
		}
	}
}

// withExt are right headers, but for an extension that stands at some places of their chains.
func withExt(ext Ext) []Header {
	list := []Header{header(ext), header(ext, extOf(60))}
	if ext.Kind != 0 {
		list = append(list, header(extOf(0), ext), header(extOf(43), ext, extOf(44)))
	}
	return list
}

func TestDataOfEachLength(t *testing.T) {
	for _, kind := range extKinds {
		for length := range 2_100 {
			right := length >= 6 && length <= 2046 && (length-6)%8 == 0
			if kind == 44 {
				right = length == 7
			}
			for _, h := range withExt(Ext{kind, data(length)}) {
				if right {
					mustWrite(t, h, "body")
					mustTake(t, plainBytes(h, "body")+"behind", h, "body")
				} else {
					mustRefuse(t, h)
				}
			}
		}
		for _, length := range []int{2054, 2056, 4094, 65_535, 65_542, 1 << 20} {
			mustRefuse(t, header(Ext{kind, data(length)}))
		}
	}
}

func TestDataCountsByBytes(t *testing.T) {
	// Three signs of six bytes in all, and four of seven; six of twelve, and seven of fourteen.
	mustWrite(t, header(Ext{0, "ééé"}, Ext{44, "é€ab"}), "")
	mustRefuse(t, header(Ext{0, "éééééé"}))
	mustRefuse(t, header(Ext{44, "ééééééé"}))
}

func TestOneWrongExtensionAtAnyPlace(t *testing.T) {
	for at := range 8 {
		chain := chainOf(60, 60, 60, 60, 60, 60, 60, 60)
		chain[at].Data = data(7)
		mustRefuse(t, header(chain...))
		chain[at] = Ext{44, data(6)}
		mustRefuse(t, header(chain...))
	}
}

func TestPutOfTheLongestBody(t *testing.T) {
	long := Ext{60, data(2046)}
	for _, chain := range [][]Ext{nil, chainOf(0), chainOf(44), chainOf(43, 60), chainOf(0, 43, 44, 60, 43, 44, 60, 43), {long}, slices.Repeat([]Ext{long}, 8)} {
		h := header(chain...)
		most := 65_535 - (len(plainBytes(h, "")) - 40)
		for _, length := range []int{most - 1, most} {
			body := strings.Repeat("b", length)
			mustWrite(t, h, body)
			mustTake(t, plainBytes(h, body)+"behind", h, body)
		}
		for _, length := range []int{most + 1, most + 2, 65_535 + 1, 65_536 + most, 1 << 20} {
			if s, err := Put(h, strings.Repeat("b", length)); s != "" || err != api.ErrArg {
				t.Fatalf("Put of %d extensions and a body of %d = %d bytes, %d", len(chain), length, len(s), err)
			}
		}
		if !Right(h) {
			t.Fatalf("not Right(%s)", shown(h))
		}
	}
}

// pieceAt is an extension 44 that tells a place; all its other bytes are set, so that they count for nothing.
func pieceAt(n int) Ext { return Ext{44, "\xff" + two(n) + "\xff\xff\xff\xff"} }

func mustTellPiece(t *testing.T, h Header, want bool) {
	t.Helper()
	if got := Piece(h); got != want {
		t.Fatalf("Piece(%s) = %t", shown(h), got)
	}
}

func TestPieceOfOneExtension(t *testing.T) {
	for n := range 1 << 16 {
		for _, others := range [][]Ext{nil, chainOf(0, 60)} {
			mustTellPiece(t, header(append(others, pieceAt(n))...), n >= 8)
			mustTellPiece(t, header(Ext{44, "\x00" + two(n) + "\x00\x00\x00\x00"}, extOf(60)), n >= 8)
		}
	}
}

func TestPieceOfHeadersWithoutSuchAnExtension(t *testing.T) {
	mustTellPiece(t, Header{}, false)
	for _, kind := range []int{0, 43, 60, 45, 17, -44, 256 + 44} {
		for _, length := range []int{6, 7, 14, 2046} {
			full := Ext{kind, strings.Repeat("\xff", length)}
			mustTellPiece(t, header(full), false)
			mustTellPiece(t, header(full, pieceAt(7), full), false)
			mustTellPiece(t, header(full, pieceAt(8), full), true)
		}
	}
	h := header()
	h.Proto = 44
	mustTellPiece(t, h, false)
}

func TestPieceOfSeveralSuchExtensions(t *testing.T) {
	for length := 1; length <= 8; length++ {
		for _, low := range []int{0, 1, 7} {
			chain := slices.Repeat([]Ext{pieceAt(low)}, length)
			mustTellPiece(t, header(chain...), false)
			for at := range length {
				for _, n := range []int{8, 9, 0x100, 0x8000, 0xffff} {
					chain[at] = pieceAt(n)
					mustTellPiece(t, header(chain...), true)
				}
				chain[at] = pieceAt(low)
			}
			mustTellPiece(t, header(slices.Repeat([]Ext{pieceAt(0xffff)}, length)...), true)
		}
	}
}

// Of headers that are not right the same is told, as far as both bytes stand there.
func TestPieceOfHeadersThatAreNotRight(t *testing.T) {
	for length := range 3 {
		mustTellPiece(t, header(Ext{44, strings.Repeat("\xff", length)}), false)
		mustTellPiece(t, header(Ext{44, strings.Repeat("\xff", length)}, pieceAt(8)), true)
	}
	mustTellPiece(t, header(Ext{44, "\xff\x00\x07"}), false)
	mustTellPiece(t, header(Ext{44, "\xff\x00\x08"}), true)
	mustTellPiece(t, header(Ext{44, "\xff\x00\x08" + data(300)}), true)
	mustTellPiece(t, Header{Chain: []Ext{pieceAt(8)}}, true)
	mustTellPiece(t, Header{Chain: []Ext{pieceAt(7)}}, false)
	mustTellPiece(t, header(append(slices.Repeat(chainOf(60), 20), pieceAt(8))...), true)
}

// P7.2: Take.

func TestTakeOfTheExample(t *testing.T) {
	s := "\x60\x00\x00\x00\x00\x00\x3b\x00" + src + dst
	mustTake(t, s, Header{Proto: 59, Src: src, Dst: dst}, "")
	mustTake(t, s+"behind", Header{Proto: 59, Src: src, Dst: dst}, "")
}

func TestTakeOfRightHeaders(t *testing.T) {
	for _, h := range rightHeaders() {
		for _, body := range bodies {
			s := plainBytes(h, body)
			for _, behind := range bodies {
				mustTake(t, s+behind, h, body)
			}
		}
	}
}

func TestTakeOfTooShort(t *testing.T) {
	for _, h := range []Header{header(), header(chainOf(0, 43)...)} {
		s := plainBytes(h, "")
		for length := range 40 {
			mustNotTake(t, s[:length], api.ErrShort)
			mustNotTake(t, strings.Repeat("\x00", length), api.ErrShort)
			mustNotTake(t, strings.Repeat("\x60", length), api.ErrShort)
			mustNotTake(t, strings.Repeat("\xff", length), api.ErrShort)
		}
		mustTake(t, s, h, "")
	}
}

func TestTakeOfAnotherVersion(t *testing.T) {
	for _, h := range []Header{header(), header(chainOf(0, 43)...)} {
		s := plainBytes(h, "body")
		for first := range 256 {
			turned := one(first) + s[1:]
			if first/16 != 6 {
				mustNotTake(t, turned, api.ErrVersion)
				mustNotTake(t, turned[:40], api.ErrVersion)
				continue
			}
			h.Class = first%16*16 + 0xb
			mustTake(t, turned, h, "body")
		}
	}
}

// withLength puts another length in its place.
func withLength(s string, length int) string { return s[:4] + two(length) + s[6:] }

// Up to what stands there each length is taken, if the chain ends within it; what stands behind it counts for nothing.
func TestTakeOfEachLength(t *testing.T) {
	for _, chain := range [][]Ext{nil, chainOf(0), chainOf(44), chainOf(43, 44, 60), {{60, data(14)}, {44, data(7)}, {43, data(22)}}} {
		h := header(chain...)
		size := len(plainBytes(h, "")) - 40
		for _, body := range bodies {
			s := plainBytes(h, body)
			there := len(s) - 40
			for length := range size {
				mustNotTake(t, withLength(s, length), api.ErrChain)
				mustNotTake(t, withLength(s[:40+length], length), api.ErrChain)
			}
			for length := size; length <= there; length++ {
				mustTake(t, withLength(s, length), h, s[40+size:40+length])
			}
			for _, length := range []int{there + 1, there + 2, there + 8, there + 256, 65_535} {
				mustNotTake(t, withLength(s, length), api.ErrLength)
			}
			for cut := 1; cut <= there; cut++ {
				mustNotTake(t, s[:len(s)-cut], api.ErrLength)
			}
		}
	}
}

func TestTakeOfChainsOfEachLength(t *testing.T) {
	for _, first := range extKinds {
		for _, further := range extKinds[1:] {
			chain := chainOf(first)
			for len(chain) < 12 {
				for _, body := range bodies {
					s := plainBytes(header(chain...), body)
					if len(chain) > 8 {
						mustNotTake(t, s, api.ErrChain)
					} else {
						mustTake(t, s, header(chain...), body)
					}
				}
				chain = append(chain, extOf(further))
			}
		}
	}
}

// The kind of a ninth extension alone tells that there are too many: whether it stands there counts for nothing.
func TestTakeOfANinthKind(t *testing.T) {
	for kind := range 256 {
		h := header(chainOf(0, 43, 44, 60, 43, 44, 60, 43)...)
		h.Proto = kind
		for _, body := range []string{"", "\x3b", "\x3b\x00data of six and more bytes"} {
			if isExtension(kind) {
				mustNotTake(t, plainBytes(h, body), api.ErrChain)
			} else {
				mustTake(t, plainBytes(h, body), h, body)
			}
		}
	}
}

func TestTakeOfAKindOfNoughtThatIsNotTheFirst(t *testing.T) {
	for length := 2; length <= 8; length++ {
		for at := 1; at < length; at++ {
			for _, first := range extKinds {
				chain := append(chainOf(first), slices.Repeat(chainOf(43), length-1)...)
				chain[at] = extOf(0)
				mustNotTake(t, plainBytes(header(chain...), "body"), api.ErrChain)
				// It is told even where the chain would end behind it.
				mustNotTake(t, plainBytes(header(chain[:at+1]...), ""), api.ErrChain)
				chain[at] = extOf(60)
				mustTake(t, plainBytes(header(chain...), "body"), header(chain...), "body")
			}
		}
	}
}

// An extension that ends beyond the length is refused, be there bytes behind it or none.
func TestTakeOfAnExtensionThatDoesNotEnd(t *testing.T) {
	for _, kind := range extKinds {
		for _, before := range [][]Ext{nil, chainOf(43), chainOf(60, 44)} {
			if kind == 0 && before != nil {
				continue
			}
			for _, units := range []int{0, 1, 2, 7, 31, 255} {
				last := extOf(kind)
				if kind != 44 {
					last.Data = data(6 + 8*units)
				}
				h := header(append(slices.Clone(before), last)...)
				s := plainBytes(h, "")
				begin := len(plainBytes(header(before...), ""))
				for end := begin; end < len(s); end++ {
					mustNotTake(t, withLength(s[:end], end-40), api.ErrChain)
					mustNotTake(t, withLength(s, end-40), api.ErrChain)
					mustNotTake(t, withLength(s, end-40)+strings.Repeat("behind", 20), api.ErrChain)
				}
				mustTake(t, s, h, "")
			}
		}
	}
}

// The bytes of a piece's extension tell no length: its first byte of Data counts for nothing.
func TestAPieceHasOneLength(t *testing.T) {
	for n := range 256 {
		h := header(Ext{44, one(n) + "\x00\x08iden"})
		mustWrite(t, h, "body")
		mustTake(t, plainBytes(h, "body"), h, "body")
	}
}

// Each kind that stands behind is the Proto, unless it is an extension's.
func TestTakeOfEachKind(t *testing.T) {
	body := "\x3b\x00dataof" + "more"
	for kind := range 256 {
		s := plainBytes(Header{Proto: kind, Src: src, Dst: dst}, body)
		switch {
		case kind == 44:
			mustTake(t, s, Header{Proto: 59, Src: src, Dst: dst, Chain: []Ext{{44, body[1:8]}}}, "more")
		case isExtension(kind):
			mustTake(t, s, Header{Proto: 59, Src: src, Dst: dst, Chain: []Ext{{kind, body[2:8]}}}, "more")
		default:
			mustTake(t, s, Header{Proto: kind, Src: src, Dst: dst}, body)
		}
	}
}

// chainFault: whether a chain of these kinds, of eight bytes each, within so many bytes is refused.
func chainFault(kinds []int, length int) bool {
	for i, kind := range kinds {
		if i >= 8 || (i > 0 && kind == 0) || 8*(i+1) > length {
			return true
		}
	}
	return false
}

// firstError goes by the promise's order through what a text was made of.
func firstError(bytes, version, length int, kinds []int) api.Errno {
	switch {
	case bytes < 40:
		return api.ErrShort
	case version != 6:
		return api.ErrVersion
	case length > bytes-40:
		return api.ErrLength
	case chainFault(kinds, length):
		return api.ErrChain
	}
	return api.OK
}

// Any of the four faults with any others: the first of the promise's order is told.
func TestTheFirstErrorIsTold(t *testing.T) {
	seen := map[api.Errno]int{}
	for _, kinds := range [][]int{nil, {0}, {44}, {43, 60}, {60, 0}, {0, 0}, {0, 43, 44, 60, 43, 44, 60, 43}, {43, 44, 60, 43, 44, 60, 43, 44, 60}, {60, 43, 44, 60, 43, 44, 60, 43, 0}} {
		whole := plainBytes(header(chainOf(kinds...)...), "body")
		for _, version := range []int{0, 2, 4, 5, 6, 7, 14, 15} {
			for bytes := range len(whole) + 1 {
				for _, length := range []int{0, 1, 7, 8, 9, 8 * len(kinds), bytes - 41, bytes - 40, bytes - 39, bytes, 65_535} {
					if length < 0 {
						continue
					}
					s := (one(16*version+3) + withLength(whole, length)[1:])[:bytes]
					want := firstError(bytes, version, length, kinds)
					seen[want]++
					if want != api.OK {
						mustNotTake(t, s, want)
					} else if h, body, err := Take(s); len(h.Chain) != len(kinds) || body != s[40+8*len(kinds):40+length] || err != api.OK {
						t.Fatalf("Take(%q) = %s, %q, %d", s, shown(h), body, err)
					}
				}
			}
		}
	}
	for _, want := range []api.Errno{api.OK, api.ErrShort, api.ErrVersion, api.ErrLength, api.ErrChain} {
		if seen[want] == 0 {
			t.Fatalf("no text of the error %d", want)
		}
	}
}

// anyText is one that often begins as a header does, and often goes on as a chain does.
func anyText(source *rand.Rand) string {
	some := make([]byte, source.Intn(40+source.Intn(160)))
	source.Read(some)
	if len(some) < 40 || source.Intn(8) == 0 {
		return string(some)
	}
	some[0], some[4], some[5] = byte(96+source.Intn(16)), 0, byte(source.Intn(len(some)-40+2))
	kinds := append([]int{17}, extKinds...)
	some[6] = byte(kinds[source.Intn(len(kinds))])
	for at := 40; at+1 < len(some); at += 8 {
		some[at] = byte(kinds[source.Intn(len(kinds))])
		some[at+1] = byte(source.Intn(2))
	}
	return string(some)
}

func TestTakeOfAnyText(t *testing.T) {
	source := rand.New(rand.NewSource(72))
	seen := map[api.Errno]int{}
	for range 100_000 {
		s := anyText(source)
		h, body, err := Take(s)
		seen[err]++
		if err != api.OK {
			mustNotTake(t, s, err)
			continue
		}
		end := 40 + int(s[4])*256 + int(s[5])
		if put, err := Put(h, body); !Right(h) || put != s[:end] || err != api.OK {
			t.Fatalf("Take(%q) = %s, %q, written as %q, %d", s, shown(h), body, put, err)
		}
	}
	for _, want := range []api.Errno{api.OK, api.ErrShort, api.ErrVersion, api.ErrLength, api.ErrChain} {
		if seen[want] < 100 {
			t.Fatalf("%d texts of the error %d", seen[want], want)
		}
	}
}

// P7.3.

func TestWhatIsWrittenIsTakenBack(t *testing.T) {
	// Another header behind is no part of the first.
	behinds := append([]string{plainBytes(header(chainOf(0)...), "next"), strings.Repeat("\x00", 100), strings.Repeat("\xff", 70_000)}, bodies...)
	for _, h := range rightHeaders() {
		for _, body := range bodies {
			s, err := Put(h, body)
			if err != api.OK {
				t.Fatalf("Put(%s, %q): %d", shown(h), body, err)
			}
			for _, behind := range behinds {
				mustTake(t, s+behind, h, body)
			}
		}
	}
}

// Whatever single byte is turned: if the text is taken at all, it is written as it stands, up to its length.
func TestWhatIsTakenIsWrittenAsItStood(t *testing.T) {
	h := header(Ext{0, data(6)}, Ext{44, data(7)}, Ext{60, data(14)}, Ext{43, data(6)})
	s := plainBytes(h, "body") + "behind"
	for at := range len(s) {
		turned := []byte(s)
		for range 256 {
			turned[at]++
			g, body, err := Take(string(turned))
			if err != api.OK {
				mustNotTake(t, string(turned), err)
				continue
			}
			end := 40 + int(turned[4])*256 + int(turned[5])
			if put, err := Put(g, body); put != string(turned[:end]) || err != api.OK {
				t.Fatalf("the byte %d turned to %d: %q is written as %q, %d", at, turned[at], turned, put, err)
			}
		}
	}
}

// R1 and R4: the same is answered each time, what was handed in stays, and nothing of it is kept.
func TestCallsKeepNothing(t *testing.T) {
	h := header(chainOf(0, 43, 44)...)
	before := slices.Clone(h.Chain)
	first, _ := Put(h, "body")
	for range 3 {
		if s, err := Put(h, "body"); s != first || err != api.OK || !Right(h) || Piece(h) != Piece(header(before...)) {
			t.Fatalf("Put = %q, %d", s, err)
		}
		if !same(h, header(before...)) {
			t.Fatalf("the header is %s", shown(h))
		}
		g, _, _ := Take(first)
		// A chain that was told is its caller's own.
		g.Chain[0], g.Chain[1] = g.Chain[1], Ext{}
		mustTake(t, first, header(before...), "body")
		mustNotTake(t, first[:39], api.ErrShort)
	}
	h.Chain[1] = extOf(60)
	mustWrite(t, h, "body")
}
