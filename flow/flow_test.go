package flow

import (
	"math"
	"math/rand"
	"strings"
	"testing"

	"rillmeter/api"
)

const (
	fourSrc = "\x0a\x00\x00\x01"
	fourDst = "\x0a\x00\x00\x02"
	sixSrc  = "\x20\x01\x0d\xb8\x00\x00\x00\x00\x00\x00\x00\x00\x00\x00\x00\x01"
	sixDst  = "\x20\x01\x0d\xb8\x00\x00\x00\x00\x00\x00\x00\x00\x00\x00\x00\x02"
	longSrc = "\x00\x00\x00\x00\x00\x00\x00\x00\x00\x00\xff\xff" + fourSrc
	longDst = "\x00\x00\x00\x00\x00\x00\x00\x00\x00\x00\xff\xff" + fourDst
	heads   = "ddddddssssss"
)

var (
	someTags   = []string{"", "\x81\x00\x00\x05", "\x88\xa8\xff\xff", "\x88\xa8\x08\x00\x81\x00\x86\xdd", "\x81\x00\x81\x00\x81\x00\x88\xa8"}
	behinds    = []string{"", "\x00", "x", "\xff\xff\xff\xff", "\x08\x00E\x00\x00\x14", strings.Repeat("\x00", 46), data(700)}
	rightPorts = []int{0, 1, 53, 255, 256, 1000, 32_767, 32_768, 65_280, 65_534, 65_535}
	wrongPorts = []int{math.MinInt, math.MinInt32, 53 - 1<<16, -256, -1, 65_536, 65_537, 1 << 17, 1 << 32, 1<<32 + 53, math.MaxInt}
	wrongProto = []int{math.MinInt, 6 - 1<<32, -256, 6 - 256, -2, -1, 256, 257, 256 + 6, 256 + 17, 1 << 16, 1<<32 + 6, math.MaxInt}
	extKinds   = []int{0, 43, 44, 60}
)

// one and two write numbers by hand, so that the tests do not lean on the layers below.
func one(n int) string { return string([]byte{byte(n)}) }

func two(n int) string { return string([]byte{byte(n >> 8), byte(n)}) }

// read is a number of two bytes.
func read(s string, at int) int { return int(s[at])*256 + int(s[at+1]) }

// data is so long, and no two bytes of it that stand near each other are the same.
func data(length int) string {
	some := make([]byte, length)
	for i := range some {
		some[i] = byte(i*7 + 1)
	}
	return string(some)
}

// sum is the sum of the Internet over an even number of bytes.
func sum(s string) int {
	n := 0
	for at := 0; at < len(s); at += 2 {
		n += read(s, at)
	}
	for n > 0xffff {
		n = n>>16 + n&0xffff
	}
	return 0xffff - n
}

// four is a packet of version 4; fragment are its Flags and its Offset together.
type four struct {
	fragment, proto   int
	src, dst, options string
}

func fourOf(proto int) four { return four{proto: proto, src: fourSrc, dst: fourDst} }

func (p four) with(body string) string {
	size := 20 + len(p.options)
	ahead := one(64+size/4) + one(7) + two(size+len(body)) + two(0xabcd) + two(p.fragment) + one(9) + one(p.proto)
	behind := p.src + p.dst + p.options
	return ahead + two(sum(ahead+behind)) + behind + body
}

// ext is an extension of version 6.
type ext struct {
	kind int
	data string
}

// extOf is an extension of a kind with the shortest data; a piece is the first one.
func extOf(kind int) ext {
	if kind == 44 {
		return pieceAt(0)
	}
	return ext{kind, data(6)}
}

// pieceAt is a piece with this number in the second and third byte of its data.
func pieceAt(n int) ext { return ext{44, "\xff" + two(n) + "\xff\xfe\xfd\xfc"} }

// six is a packet of version 6.
type six struct {
	proto    int
	src, dst string
	chain    []ext
}

func sixOf(proto int, chain ...ext) six { return six{proto, sixSrc, sixDst, chain} }

func (p six) with(body string) string {
	s, kind := body, p.proto
	for i := len(p.chain) - 1; i >= 0; i-- {
		e := p.chain[i]
		if e.kind == 44 {
			s = one(kind) + e.data + s
		} else {
			s = one(kind) + one(len(e.data)/8) + e.data + s
		}
		kind = e.kind
	}
	return "\x6a\xbc\x12\x34" + two(len(s)) + one(kind) + one(64) + p.src + p.dst + s
}

// segment and datagram go from port 53 to port 1000.
func segment() string { return segmentOf(53, 1000, "", "body") }

func datagram() string { return datagramOf(53, 1000, "body") }

func segmentOf(src, dst int, options, body string) string {
	return two(src) + two(dst) + data(8) + one(16*(5+len(options)/4)+9) + data(7) + options + body
}

func datagramOf(src, dst int, body string) string {
	return two(src) + two(dst) + two(8+len(body)) + "\xab\xcd" + body
}

// both is a segment as well as a datagram, so that a protocol's ports would be told whichever it were taken for.
func both() string {
	return "\x00\x35\x03\xe8\x00\x16\x00\x00\x00\x00\x00\x00\x50\x00\x00\x00\x00\x00\x00\x00body"
}

func fourFrame(packet string) string { return heads + "\x08\x00" + packet }

func sixFrame(packet string) string { return heads + "\x86\xdd" + packet }

// fourFlow and sixFlow are those of fourOf's and sixOf's packets with the ports 53 and 1000.
func fourFlow(proto int) api.Flow {
	return api.Flow{Src: longSrc, Dst: longDst, Proto: proto, SrcPort: 53, DstPort: 1000}
}

func sixFlow(proto int) api.Flow {
	return api.Flow{Src: sixSrc, Dst: sixDst, Proto: proto, SrcPort: 53, DstPort: 1000}
}

func portless(f api.Flow) api.Flow {
	f.SrcPort, f.DstPort = 0, 0
	return f
}

// mustExtract holds that a flow is told, and that it is right (P9.3).
func mustExtract(t *testing.T, frame string, want api.Flow) {
	t.Helper()
	f, err := Extract(frame)
	if f != want || err != api.OK {
		t.Fatalf("Extract(%.120q of %d bytes) = %#v, %d, not %#v", frame, len(frame), f, err, want)
	}
	if !Right(f) {
		t.Fatalf("Extract(%.120q) = %#v, which is not right", frame, f)
	}
}

// mustNotExtract holds that nothing but the error is told.
func mustNotExtract(t *testing.T, frame string, want api.Errno) {
	t.Helper()
	if f, err := Extract(frame); f != (api.Flow{}) || err != want {
		t.Fatalf("Extract(%.120q of %d bytes) = %#v, %d, not the error %d alone", frame, len(frame), f, err, want)
	}
}

// P9.1.

func TestExtractOfTheExample(t *testing.T) {
	frame := heads + "\x08\x00" + string([]byte{69, 0, 0, 28, 0, 0, 0, 0, 64, 17, 102, 207, 10, 0, 0, 1, 10, 0, 0, 2, 0, 53, 3, 232, 0, 8, 0, 0})
	mustExtract(t, frame, fourFlow(17))
	f, _ := Extract(frame)
	if want := string([]byte{0, 0, 0, 0, 0, 0, 0, 0, 0, 0, 255, 255, 10, 0, 0, 1}); f.Src != want {
		t.Errorf("Src is %q", f.Src)
	}
}

func TestExtractOfFramesUpToTheGreatestLength(t *testing.T) {
	frames := map[string]api.Flow{
		fourFrame(fourOf(17).with(datagram())):                fourFlow(17),
		fourFrame(fourOf(6).with(segment())):                  fourFlow(6),
		fourFrame(fourOf(1).with("")):                         portless(fourFlow(1)),
		sixFrame(sixOf(17, extOf(0)).with(datagram())):        sixFlow(17),
		sixFrame(sixOf(59).with("")):                          portless(sixFlow(59)),
		heads + someTags[3] + "\x08\x00" + fourOf(2).with(""): portless(fourFlow(2)),
	}
	for frame, want := range frames {
		for _, length := range []int{2046, 2047, 2048} {
			mustExtract(t, frame+data(length-len(frame)), want)
		}
		for _, length := range []int{2049, 2050, 2304, 4096, 65_535, 65_536, 65_536 + 100, 1 << 20} {
			mustNotExtract(t, frame+data(length-len(frame)), api.ErrLong)
		}
	}
	// A packet may fill the frame to its last byte.
	mustExtract(t, fourFrame(fourOf(17).with(datagramOf(53, 1000, data(2048-14-20-8)))), fourFlow(17))
	mustNotExtract(t, fourFrame(fourOf(17).with(datagramOf(53, 1000, data(2049-14-20-8)))), api.ErrLong)
	mustExtract(t, sixFrame(sixOf(6).with(segmentOf(53, 1000, "", data(2048-14-40-20)))), sixFlow(6))
	mustNotExtract(t, sixFrame(sixOf(6).with(segmentOf(53, 1000, "", data(2049-14-40-20)))), api.ErrLong)
}

// ErrLong is named ahead of all that is wrong beside it.
func TestALongFrameIsToldFirst(t *testing.T) {
	for _, frame := range wrongFrames() {
		mustNotExtract(t, frame.bytes, frame.want)
		mustNotExtract(t, frame.bytes+data(2049), api.ErrLong)
	}
	mustNotExtract(t, strings.Repeat("\x00", 2048), api.ErrType)
	mustNotExtract(t, strings.Repeat("\x00", 2049), api.ErrLong)
	mustNotExtract(t, heads+strings.Repeat("\x81\x00", 1018), api.ErrTags)
	mustNotExtract(t, heads+strings.Repeat("\x81\x00", 1019), api.ErrLong)
}

// wrong is a frame with the error that is told of it.
type wrong struct {
	bytes string
	want  api.Errno
}

// wrongFrames are wrong in one way each.
func wrongFrames() []wrong {
	turned := []byte(fourOf(17).with(datagram()))
	turned[8]++
	long := sixOf(17).with(datagram())
	return []wrong{
		{"", api.ErrShort},
		{heads, api.ErrShort},
		{heads + "\x81\x00\x81\x00\x81\x00\x81\x00\x81\x00\x08\x00" + fourOf(17).with(datagram()), api.ErrTags},
		{heads + "\x08\x06" + fourOf(17).with(datagram()), api.ErrType},
		{fourFrame(fourOf(17).with("")[:19]), api.ErrShort},
		{fourFrame(sixOf(17).with(datagram())), api.ErrVersion},
		{fourFrame("\x44" + fourOf(17).with(datagram())[1:]), api.ErrHeader},
		{fourFrame(fourOf(17).with(datagram())[:31]), api.ErrLength},
		{fourFrame(string(turned)), api.ErrCheck},
		{fourFrame(four{fragment: 1, proto: 17, src: fourSrc, dst: fourDst}.with(datagram())), api.ErrFragment},
		{fourFrame(fourOf(17).with("")), api.ErrPorts},
		{fourFrame(fourOf(6).with("")), api.ErrPorts},
		{sixFrame(sixOf(17).with("")[:39]), api.ErrShort},
		{sixFrame(fourOf(17).with(datagramOf(1, 2, data(40)))), api.ErrVersion},
		{sixFrame(long[:len(long)-1]), api.ErrLength},
		{sixFrame(sixOf(17, extOf(60), extOf(0)).with(datagram())), api.ErrChain},
		{sixFrame(sixOf(17, pieceAt(8)).with(datagram())), api.ErrFragment},
		{sixFrame(sixOf(17).with("")), api.ErrPorts},
		{sixFrame(sixOf(6).with("")), api.ErrPorts},
	}
}

// Of what is refused nothing is told but the error, with tags ahead, too.
func TestWrongFrames(t *testing.T) {
	for _, frame := range wrongFrames() {
		mustNotExtract(t, frame.bytes, frame.want)
		if len(frame.bytes) > len(heads) && frame.want != api.ErrTags {
			for _, tags := range someTags {
				mustNotExtract(t, heads+tags+frame.bytes[len(heads):], frame.want)
			}
		}
	}
}

// A frame that ends anywhere has the error of the layer in which it ends.
func TestExtractOfFramesThatEnd(t *testing.T) {
	for _, tags := range someTags {
		at := len(heads) + len(tags) + 2
		s := heads + tags + "\x08\x00" + four{proto: 6, src: fourSrc, dst: fourDst, options: "options4"}.with(segment())
		for length := range len(s) {
			switch {
			case length < at+20:
				mustNotExtract(t, s[:length], api.ErrShort)
			case length < at+28:
				mustNotExtract(t, s[:length], api.ErrHeader)
			default:
				mustNotExtract(t, s[:length], api.ErrLength)
			}
		}
		s = heads + tags + "\x86\xdd" + sixOf(17, extOf(0), extOf(44)).with(datagram())
		for length := range len(s) {
			if length < at+40 {
				mustNotExtract(t, s[:length], api.ErrShort)
			} else {
				mustNotExtract(t, s[:length], api.ErrLength)
			}
		}
	}
}

func TestExtractOfTooManyTags(t *testing.T) {
	kinds := []string{"\x81\x00", "\x88\xa8"}
	for _, a := range kinds {
		for _, b := range kinds {
			for _, c := range kinds {
				mustExtract(t, heads+a+"\x00\x01"+b+"\x00\x02\x08\x00"+fourOf(17).with(datagram()), fourFlow(17))
				mustNotExtract(t, heads+a+"\x00\x01"+b+"\x00\x02"+c, api.ErrTags)
				mustNotExtract(t, heads+a+"\x00\x01"+b+"\x00\x02"+c+"\x00\x03\x08\x00"+fourOf(17).with(datagram()), api.ErrTags)
				mustNotExtract(t, heads+a+"\x00\x01"+b+"\x00\x02"+c+"\x00\x03\x08\x06", api.ErrTags)
				mustNotExtract(t, heads+a+"\x00\x01"+b+"\x00\x02"+c[:1], api.ErrShort)
			}
		}
	}
}

// Each Type with a packet of each version. A tag's Kind there would have the packet's third and fourth byte as the Type behind it.
func TestExtractOfEachType(t *testing.T) {
	packets := []string{fourOf(17).with(datagramOf(53, 1000, data(20))), sixOf(17).with(datagram())}
	for kind := range 1 << 16 {
		for i, packet := range packets {
			frame := heads + two(kind) + packet
			switch {
			case kind == 0x0800 && i == 0:
				mustExtract(t, frame, fourFlow(17))
			case kind == 0x86dd && i == 1:
				mustExtract(t, frame, sixFlow(17))
			case kind == 0x0800 || kind == 0x86dd:
				mustNotExtract(t, frame, api.ErrVersion)
			default:
				mustNotExtract(t, frame, api.ErrType)
			}
		}
	}
}

// Of another Type nothing counts that stands behind it.
func TestExtractOfOtherTypesWithAnyPacket(t *testing.T) {
	for _, kind := range []int{0, 1, 46, 1500, 1536, 0x07ff, 0x0801, 0x0806, 0x0008, 0x8600, 0x86dc, 0x86de, 0xdd86, 0x00dd, 0xffff} {
		for _, tags := range someTags {
			for _, frame := range wrongFrames() {
				if len(frame.bytes) >= 14 {
					mustNotExtract(t, heads+tags+two(kind)+frame.bytes[14:], api.ErrType)
				}
			}
			for _, behind := range behinds {
				mustNotExtract(t, heads+tags+two(kind)+behind, api.ErrType)
			}
		}
	}
}

func TestErrorsOfVersionFour(t *testing.T) {
	s := fourOf(17).with(datagram())
	for first := range 256 {
		turned := fourFrame(one(first) + s[1:])
		switch {
		case first == 0x45:
			mustExtract(t, turned, fourFlow(17))
		case first/16 != 4:
			mustNotExtract(t, turned, api.ErrVersion)
		case first%16 < 5 || first%16*4 > len(s):
			mustNotExtract(t, turned, api.ErrHeader)
		default:
			mustNotExtract(t, turned, api.ErrCheck)
		}
	}
	for length := range 1 << 16 {
		turned := fourFrame(s[:2] + two(length) + s[4:])
		switch {
		case length == len(s):
			mustExtract(t, turned, fourFlow(17))
		case length < 20 || length > len(s):
			mustNotExtract(t, turned, api.ErrLength)
		default:
			mustNotExtract(t, turned, api.ErrCheck)
		}
	}
	for at := 4; at < 20; at++ {
		for change := 1; change < 256; change++ {
			turned := []byte(s)
			turned[at] += byte(change)
			mustNotExtract(t, fourFrame(string(turned)), api.ErrCheck)
		}
	}
}

// Flags count for nothing, whatever they are.
func TestExtractOfEachFragment(t *testing.T) {
	for fragment := range 1 << 16 {
		for proto, body := range map[int]string{17: datagram(), 6: segment(), 1: "ping"} {
			p := fourOf(proto)
			p.fragment = fragment
			switch {
			case fragment%8192 != 0:
				mustNotExtract(t, fourFrame(p.with(body)), api.ErrFragment)
			case proto == 1:
				mustExtract(t, fourFrame(p.with(body)), portless(fourFlow(proto)))
			default:
				mustExtract(t, fourFrame(p.with(body)), fourFlow(proto))
			}
		}
	}
}

// Options of version 4 are neither addresses nor ports.
func TestExtractOfOptions(t *testing.T) {
	for length := 0; length <= 40; length += 4 {
		p := fourOf(17)
		p.options = data(length)
		mustExtract(t, fourFrame(p.with(datagram())), fourFlow(17))
		p.proto = 6
		mustExtract(t, fourFrame(p.with(segmentOf(53, 1000, data(length), "body"))), fourFlow(6))
		mustExtract(t, sixFrame(sixOf(6).with(segmentOf(53, 1000, data(length), "body"))), sixFlow(6))
	}
}

func TestErrorsOfVersionSix(t *testing.T) {
	s := sixOf(17).with(datagram())
	for first := range 256 {
		turned := sixFrame(one(first) + s[1:])
		if first/16 == 6 {
			mustExtract(t, turned, sixFlow(17))
		} else {
			mustNotExtract(t, turned, api.ErrVersion)
		}
	}
	for length := range 1 << 16 {
		turned := sixFrame(s[:4] + two(length) + s[6:])
		switch {
		case length == 12:
			mustExtract(t, turned, sixFlow(17))
		case length > 12:
			mustNotExtract(t, turned, api.ErrLength)
		default:
			// Below it the datagram tells more bytes than there are.
			mustNotExtract(t, turned, api.ErrPorts)
		}
	}
}

func TestExtractOfChainsOfEachKind(t *testing.T) {
	bodies := map[int]string{6: segment(), 17: datagram()}
	for proto, body := range bodies {
		mustExtract(t, sixFrame(sixOf(proto).with(body)), sixFlow(proto))
		for _, a := range extKinds {
			mustExtract(t, sixFrame(sixOf(proto, extOf(a)).with(body)), sixFlow(proto))
			for _, b := range extKinds {
				frame := sixFrame(sixOf(proto, extOf(a), extOf(b), extOf(43)).with(body))
				if b == 0 {
					mustNotExtract(t, frame, api.ErrChain)
				} else {
					mustExtract(t, frame, sixFlow(proto))
				}
			}
		}
		for units := range 256 {
			for _, kind := range []int{0, 43, 60} {
				frame := sixFrame(sixOf(proto, ext{kind, data(6 + 8*units)}).with(body))
				if len(frame) > 2048 {
					mustNotExtract(t, frame, api.ErrLong)
				} else {
					mustExtract(t, frame, sixFlow(proto))
				}
			}
		}
	}
}

func TestExtractOfLongChains(t *testing.T) {
	for _, kind := range []int{43, 44, 60} {
		var chain []ext
		for length := 1; length <= 12; length++ {
			chain = append(chain, extOf(kind))
			frame := sixFrame(sixOf(6, chain...).with(segment()))
			if length <= 8 {
				mustExtract(t, frame, sixFlow(6))
			} else {
				mustNotExtract(t, frame, api.ErrChain)
			}
		}
	}
}

// A chain that goes beyond the packet's length is none, whatever stands behind.
func TestExtractOfChainsThatEnd(t *testing.T) {
	s := sixOf(17, extOf(0), extOf(44), ext{60, data(14)}).with("")
	for length := range 32 {
		for _, behind := range behinds {
			mustNotExtract(t, sixFrame(s[:4]+two(length)+s[6:]+behind), api.ErrChain)
		}
	}
	mustNotExtract(t, sixFrame(s), api.ErrPorts)
}

// The upper 13 of the 16 bits tell a piece's place.
func TestExtractOfEachPiece(t *testing.T) {
	for n := range 1 << 16 {
		frame := sixFrame(sixOf(17, pieceAt(n)).with(datagram()))
		if n < 8 {
			mustExtract(t, frame, sixFlow(17))
		} else {
			mustNotExtract(t, frame, api.ErrFragment)
		}
	}
}

// A piece that is not the first one is told wherever in the chain it stands, and of whatever protocol.
func TestExtractOfPiecesAtEachPlace(t *testing.T) {
	for _, proto := range []int{6, 17, 1, 58, 59, 255} {
		for place := range 8 {
			for _, n := range []int{0, 7, 8, 9, 256, 65_535} {
				chain := []ext{extOf(0), extOf(43), extOf(44), extOf(60), extOf(60), extOf(44), extOf(43), extOf(60)}
				chain[place] = pieceAt(n)
				frame := sixFrame(sixOf(proto, chain...).with(both()))
				switch {
				case n >= 8:
					mustNotExtract(t, frame, api.ErrFragment)
				case proto == 6 || proto == 17:
					mustExtract(t, frame, sixFlow(proto))
				default:
					mustExtract(t, frame, portless(sixFlow(proto)))
				}
			}
		}
	}
}

// Of the 256 protocols two have ports. In a packet of version 6 four are extensions' kinds.
func TestExtractOfEachProto(t *testing.T) {
	for proto := range 256 {
		wantFour, wantSix := portless(fourFlow(proto)), portless(sixFlow(proto))
		if proto == 6 || proto == 17 {
			wantFour, wantSix = fourFlow(proto), sixFlow(proto)
		}
		for _, tags := range someTags {
			mustExtract(t, heads+tags+"\x08\x00"+fourOf(proto).with(both()), wantFour)
		}
		if proto != 0 && proto != 43 && proto != 44 && proto != 60 {
			mustExtract(t, sixFrame(sixOf(proto).with(both())), wantSix)
			mustExtract(t, sixFrame(sixOf(proto, extOf(0), extOf(44)).with(both())), wantSix)
		}
	}
}

// Without ports there is nothing that a body would have to hold.
func TestExtractOfBodiesWithoutPorts(t *testing.T) {
	for proto := range 256 {
		for _, body := range []string{"", "x", "\x00\x35\x03\xe8", strings.Repeat("\xff", 59)} {
			if proto == 6 || proto == 17 {
				mustNotExtract(t, fourFrame(fourOf(proto).with(body)), api.ErrPorts)
				mustNotExtract(t, sixFrame(sixOf(proto, extOf(60)).with(body)), api.ErrPorts)
				continue
			}
			mustExtract(t, fourFrame(fourOf(proto).with(body)), portless(fourFlow(proto)))
			if proto != 0 && proto != 43 && proto != 44 && proto != 60 {
				mustExtract(t, sixFrame(sixOf(proto, extOf(60)).with(body)), portless(sixFlow(proto)))
			}
		}
	}
}

// A body that is cut off by its packet's length is no segment, no datagram, though its bytes stand behind.
func TestErrorsOfPorts(t *testing.T) {
	for length := range 20 {
		rest := segment()[length:]
		mustNotExtract(t, fourFrame(fourOf(6).with(segment()[:length]))+rest, api.ErrPorts)
		mustNotExtract(t, sixFrame(sixOf(6).with(segment()[:length]))+rest, api.ErrPorts)
	}
	for length := range len(datagram()) {
		rest := datagram()[length:]
		mustNotExtract(t, fourFrame(fourOf(17).with(datagram()[:length]))+rest, api.ErrPorts)
		mustNotExtract(t, sixFrame(sixOf(17).with(datagram()[:length]))+rest, api.ErrPorts)
	}
	for fours := range 16 {
		s := segment()[:12] + one(16*fours) + segment()[13:]
		if fours == 5 || fours == 6 {
			mustExtract(t, fourFrame(fourOf(6).with(s)), fourFlow(6))
			mustExtract(t, sixFrame(sixOf(6).with(s)), sixFlow(6))
			continue
		}
		mustNotExtract(t, fourFrame(fourOf(6).with(s)+data(60)), api.ErrPorts)
		mustNotExtract(t, sixFrame(sixOf(6).with(s)+data(60)), api.ErrPorts)
	}
	for length := range 1 << 16 {
		s := datagram()[:4] + two(length) + datagram()[6:]
		if length >= 8 && length <= 12 {
			mustExtract(t, fourFrame(fourOf(17).with(s)), fourFlow(17))
			mustExtract(t, sixFrame(sixOf(17).with(s)), sixFlow(17))
			continue
		}
		mustNotExtract(t, fourFrame(fourOf(17).with(s)+data(60)), api.ErrPorts)
		mustNotExtract(t, sixFrame(sixOf(17).with(s)+data(60)), api.ErrPorts)
	}
}

// Where a frame is wrong in more than one way, the error that P9.1 names first is told.
func TestErrorsInTheirOrder(t *testing.T) {
	further := four{fragment: 3, proto: 17, src: fourSrc, dst: fourDst}
	unsummed := []byte(further.with("no"))
	unsummed[10]++
	cut := sixOf(17, pieceAt(8), extOf(60)).with("")
	for _, frame := range []wrong{
		{heads + "\x81\x00\x00\x01\x81\x00\x00\x02\x81\x00\x08\x06", api.ErrTags},
		{heads + "\x08\x06" + string(unsummed), api.ErrType},
		{fourFrame(string(unsummed)), api.ErrCheck},
		{fourFrame(string(unsummed[:21])), api.ErrLength},
		{fourFrame("\x4f" + string(unsummed[1:])), api.ErrHeader},
		{fourFrame("\x54" + string(unsummed[1:])), api.ErrVersion},
		{fourFrame("\x54" + string(unsummed[1:19])), api.ErrShort},
		{fourFrame(further.with("no")), api.ErrFragment},
		{fourFrame(further.with("")), api.ErrFragment},
		{sixFrame("\x40" + cut[1:39]), api.ErrShort},
		{sixFrame("\x40" + cut[1:41]), api.ErrVersion},
		{sixFrame(cut[:4] + "\xff\xff" + cut[6:]), api.ErrLength},
		{sixFrame(cut[:4] + "\x00\x0f" + cut[6:]), api.ErrChain},
		{sixFrame(sixOf(17, pieceAt(8), extOf(0)).with("no")), api.ErrChain},
		{sixFrame(cut), api.ErrFragment},
	} {
		mustNotExtract(t, frame.bytes, frame.want)
	}
}

// Neither tags ahead of a packet nor bytes behind its length turn a flow.
func TestTagsAndBytesBehindTurnNoFlow(t *testing.T) {
	for _, tags := range someTags {
		for _, behind := range behinds {
			mustExtract(t, heads+tags+"\x08\x00"+fourOf(17).with(datagram())+behind, fourFlow(17))
			mustExtract(t, heads+tags+"\x08\x00"+fourOf(17).with(datagram()+behind), fourFlow(17))
			mustExtract(t, heads+tags+"\x08\x00"+fourOf(6).with(segment())+behind, fourFlow(6))
			mustExtract(t, heads+tags+"\x08\x00"+fourOf(47).with("")+behind, portless(fourFlow(47)))
			mustExtract(t, heads+tags+"\x86\xdd"+sixOf(17).with(datagram())+behind, sixFlow(17))
			mustExtract(t, heads+tags+"\x86\xdd"+sixOf(6, extOf(0), extOf(43)).with(segment())+behind, sixFlow(6))
			mustExtract(t, heads+tags+"\x86\xdd"+sixOf(59).with("")+behind, portless(sixFlow(59)))
		}
	}
}

// The addresses of the frame itself, a header's other numbers and what a body says count for nothing.
func TestOtherBytesTurnNoFlow(t *testing.T) {
	frame := sixFrame(sixOf(6).with(segment()))
	for _, at := range []int{0, 5, 6, 11, 15, 16, 17, 21, 58, 65, 67, 68, 73} {
		for n := range 256 {
			turned := []byte(frame)
			turned[at] = byte(n)
			mustExtract(t, string(turned), sixFlow(6))
		}
	}
}

func TestExtractOfAddresses(t *testing.T) {
	for at := range 4 {
		for n := range 256 {
			src, dst := []byte(fourSrc), []byte(fourDst)
			src[at], dst[3-at] = byte(n), byte(255-n)
			p := four{proto: 17, src: string(src), dst: string(dst)}
			want := fourFlow(17)
			want.Src, want.Dst = longSrc[:12]+string(src), longDst[:12]+string(dst)
			mustExtract(t, fourFrame(p.with(datagram())), want)
		}
	}
	for at := range 16 {
		for n := range 256 {
			src, dst := []byte(sixSrc), []byte(sixDst)
			src[at], dst[15-at] = byte(n), byte(255-n)
			want := sixFlow(17)
			want.Src, want.Dst = string(src), string(dst)
			mustExtract(t, sixFrame(six{17, want.Src, want.Dst, nil}.with(datagram())), want)
		}
	}
}

// An address of version 4 is the same flow's as the 16 bytes for which it stands.
func TestAnAddressOfVersionFourStandsForItsBytes(t *testing.T) {
	mustExtract(t, sixFrame(six{17, longSrc, longDst, nil}.with(datagram())), fourFlow(17))
	mustExtract(t, fourFrame(fourOf(17).with(datagram())), fourFlow(17))
}

func TestExtractOfEachPort(t *testing.T) {
	for n := range 1 << 16 {
		src, dst := n, 65_535-n
		wantFour, wantSix := fourFlow(6), sixFlow(17)
		wantFour.SrcPort, wantFour.DstPort = src, dst
		wantSix.SrcPort, wantSix.DstPort = src, dst
		mustExtract(t, fourFrame(fourOf(6).with(segmentOf(src, dst, "", ""))), wantFour)
		mustExtract(t, sixFrame(sixOf(17).with(datagramOf(src, dst, ""))), wantSix)
	}
}

// P9.2.

func rightFlows() []api.Flow {
	list := []api.Flow{fourFlow(17), sixFlow(6), {Src: longSrc, Dst: longSrc}, {Src: strings.Repeat("\x00", 16), Dst: strings.Repeat("\x00", 16)}, {Src: strings.Repeat("\xff", 16), Dst: strings.Repeat("\xff", 16), Proto: 255, SrcPort: 65_535, DstPort: 65_535}}
	for proto := range 256 {
		list = append(list, sixFlow(proto), portless(fourFlow(proto)))
	}
	for _, src := range rightPorts {
		for _, dst := range rightPorts {
			f := sixFlow(17)
			f.SrcPort, f.DstPort = src, dst
			list = append(list, f)
		}
	}
	source := rand.New(rand.NewSource(9))
	for range 5000 {
		some := make([]byte, 32)
		source.Read(some)
		list = append(list, api.Flow{Src: string(some[:16]), Dst: string(some[16:]), Proto: source.Intn(256), SrcPort: source.Intn(1 << 16), DstPort: source.Intn(1 << 16)})
	}
	return list
}

// plainKey is a right flow's key by hand.
func plainKey(f api.Flow) string {
	return f.Src + f.Dst + one(f.Proto) + two(f.SrcPort) + two(f.DstPort)
}

// mustRefuse holds that a flow is not right and has no key.
func mustRefuse(t *testing.T, f api.Flow) {
	t.Helper()
	if Right(f) {
		t.Fatalf("Right(%#v)", f)
	}
	if key, err := Key(f); key != "" || err != api.ErrArg {
		t.Fatalf("Key(%#v) = %q, %d", f, key, err)
	}
}

// mustKey holds that a flow is right and has its key, and that this is the key of no other flow.
func mustKey(t *testing.T, f api.Flow) {
	t.Helper()
	if !Right(f) {
		t.Fatalf("not Right(%#v)", f)
	}
	key, err := Key(f)
	if key != plainKey(f) || err != api.OK {
		t.Fatalf("Key(%#v) = %q, %d", f, key, err)
	}
	if back, err := Of(key); back != f || err != api.OK {
		t.Fatalf("Of(%q) = %#v, %d, not %#v", key, back, err, f)
	}
	if Source(key) != f.Src || Target(key) != f.Dst {
		t.Fatalf("Source(%q) = %q, Target = %q", key, Source(key), Target(key))
	}
}

// mustNotBeKey holds that nothing is told of a text that is no key.
func mustNotBeKey(t *testing.T, key string) {
	t.Helper()
	if f, err := Of(key); f != (api.Flow{}) || err != api.ErrArg {
		t.Fatalf("Of(%.80q of %d bytes) = %#v, %d", key, len(key), f, err)
	}
	if src, dst := Source(key), Target(key); src != "" || dst != "" {
		t.Fatalf("Source(%.80q of %d bytes) = %q, Target = %q", key, len(key), src, dst)
	}
}

func TestKeyOfAKnownFlow(t *testing.T) {
	want := string([]byte{0, 0, 0, 0, 0, 0, 0, 0, 0, 0, 255, 255, 10, 0, 0, 1, 0, 0, 0, 0, 0, 0, 0, 0, 0, 0, 255, 255, 10, 0, 0, 2, 17, 0, 53, 3, 232})
	if key, err := Key(fourFlow(17)); key != want || err != api.OK {
		t.Errorf("Key = %q, %d", key, err)
	}
	if f, err := Of(want); f != fourFlow(17) || err != api.OK {
		t.Errorf("Of = %#v, %d", f, err)
	}
	if Source(want) != longSrc || Target(want) != longDst {
		t.Errorf("Source = %q, Target = %q", Source(want), Target(want))
	}
}

func TestRightFlows(t *testing.T) {
	for _, f := range rightFlows() {
		mustKey(t, f)
	}
}

func TestAddressesOfEachLength(t *testing.T) {
	for src := range 80 {
		for dst := range 80 {
			f := sixFlow(17)
			f.Src, f.Dst = data(src), data(dst)
			if src == 16 && dst == 16 {
				mustKey(t, f)
			} else {
				mustRefuse(t, f)
			}
		}
	}
	for _, length := range []int{255, 256, 256 + 16, 1<<16 + 16} {
		f := sixFlow(17)
		f.Src = data(length)
		mustRefuse(t, f)
		f.Src, f.Dst = f.Dst, f.Src
		mustRefuse(t, f)
	}
	mustRefuse(t, api.Flow{})
	mustRefuse(t, api.Flow{Src: fourSrc, Dst: fourDst, Proto: 17, SrcPort: 53, DstPort: 1000})
}

func TestProtosAtTheEdges(t *testing.T) {
	for _, f := range rightFlows()[:50] {
		for _, proto := range []int{0, 1, 127, 128, 254, 255} {
			f.Proto = proto
			mustKey(t, f)
		}
		for _, proto := range wrongProto {
			f.Proto = proto
			mustRefuse(t, f)
		}
	}
}

func TestPortsAtTheEdges(t *testing.T) {
	for _, bad := range wrongPorts {
		for _, right := range rightPorts {
			f := fourFlow(6)
			f.SrcPort, f.DstPort = bad, right
			mustRefuse(t, f)
			f.SrcPort, f.DstPort = right, bad
			mustRefuse(t, f)
			f.SrcPort, f.DstPort = bad, bad
			mustRefuse(t, f)
			f.SrcPort, f.DstPort = right, right
			mustKey(t, f)
		}
	}
}

func TestKeysOfOtherLengths(t *testing.T) {
	key := plainKey(sixFlow(6))
	for length := range 37 {
		mustNotBeKey(t, key[:length])
		mustNotBeKey(t, key[37-length:])
	}
	for length := 1; length <= 300; length++ {
		mustNotBeKey(t, key+data(length))
	}
	for _, length := range []int{256 + 37, 1<<16 + 37} {
		mustNotBeKey(t, data(length))
	}
	mustNotBeKey(t, "")
	mustNotBeKey(t, key[:36])
	mustNotBeKey(t, key+"\x00")
}

// P9.3.

// Any 37 bytes are the key of the flow that they tell.
func TestAFlowIsItsKeys(t *testing.T) {
	source := rand.New(rand.NewSource(99))
	for round := range 20_000 {
		some := make([]byte, 37)
		source.Read(some)
		if round < 2 {
			some = []byte(strings.Repeat(one(255*round), 37))
		}
		key := string(some)
		f, err := Of(key)
		if err != api.OK || !Right(f) {
			t.Fatalf("Of(%q) = %#v, %d", key, f, err)
		}
		if back, err := Key(f); back != key || err != api.OK {
			t.Fatalf("Key(Of(%q)) = %q, %d", key, back, err)
		}
		if Source(key) != key[:16] || Target(key) != key[16:32] {
			t.Fatalf("Source(%q) = %q, Target = %q", key, Source(key), Target(key))
		}
	}
}

// plainExtract counts out by hand, place by place, what P9.1 says.
func plainExtract(s string) (api.Flow, api.Errno) {
	if len(s) > 2048 {
		return api.Flow{}, api.ErrLong
	}
	at, tags := 12, 0
	for {
		if len(s) < at+2 {
			return api.Flow{}, api.ErrShort
		}
		if kind := read(s, at); kind != 0x8100 && kind != 0x88a8 {
			break
		}
		if tags++; tags == 3 {
			return api.Flow{}, api.ErrTags
		}
		at += 4
	}
	switch packet := s[at+2:]; read(s, at) {
	case 0x0800:
		return plainFour(packet)
	case 0x86dd:
		return plainSix(packet)
	}
	return api.Flow{}, api.ErrType
}

func plainFour(s string) (api.Flow, api.Errno) {
	switch {
	case len(s) < 20:
		return api.Flow{}, api.ErrShort
	case s[0]/16 != 4:
		return api.Flow{}, api.ErrVersion
	case s[0]%16 < 5 || int(s[0]%16)*4 > len(s):
		return api.Flow{}, api.ErrHeader
	case read(s, 2) < int(s[0]%16)*4 || read(s, 2) > len(s):
		return api.Flow{}, api.ErrLength
	case sum(s[:s[0]%16*4]) != 0:
		return api.Flow{}, api.ErrCheck
	case read(s, 6)%8192 != 0:
		return api.Flow{}, api.ErrFragment
	}
	return plainPorts(api.Flow{Src: longSrc[:12] + s[12:16], Dst: longSrc[:12] + s[16:20], Proto: int(s[9])}, s[s[0]%16*4:read(s, 2)])
}

func plainSix(s string) (api.Flow, api.Errno) {
	switch {
	case len(s) < 40:
		return api.Flow{}, api.ErrShort
	case s[0]/16 != 6:
		return api.Flow{}, api.ErrVersion
	case read(s, 4) > len(s)-40:
		return api.Flow{}, api.ErrLength
	}
	behind, kind, further := s[40:40+read(s, 4)], s[6], false
	for place := 0; kind == 0 || kind == 43 || kind == 44 || kind == 60; place++ {
		size := 8
		if kind != 44 && len(behind) > 1 {
			size += 8 * int(behind[1])
		}
		if place == 8 || kind == 0 && place > 0 || len(behind) < size {
			return api.Flow{}, api.ErrChain
		}
		further = further || kind == 44 && read(behind, 2) >= 8
		kind, behind = behind[0], behind[size:]
	}
	if further {
		return api.Flow{}, api.ErrFragment
	}
	return plainPorts(api.Flow{Src: s[8:24], Dst: s[24:40], Proto: int(kind)}, behind)
}

func plainPorts(f api.Flow, s string) (api.Flow, api.Errno) {
	switch f.Proto {
	case 6:
		if len(s) < 20 || s[12]/16 < 5 || int(s[12]/16)*4 > len(s) {
			return api.Flow{}, api.ErrPorts
		}
	case 17:
		if len(s) < 8 || read(s, 4) < 8 || read(s, 4) > len(s) {
			return api.Flow{}, api.ErrPorts
		}
	default:
		return f, api.OK
	}
	f.SrcPort, f.DstPort = read(s, 0), read(s, 2)
	return f, api.OK
}

// anyPacket is a frame's Type and its packet, which are most often right.
func anyPacket(source *rand.Rand) string {
	some := make([]byte, 64)
	source.Read(some)
	proto := []int{6, 17, 1, 58, 255, source.Intn(256)}[source.Intn(6)]
	body := []string{segment(), datagram(), both(), data(source.Intn(40))}[source.Intn(4)]
	if source.Intn(2) == 0 {
		p := four{proto: proto, src: string(some[:4]), dst: string(some[4:8]), options: string(some[8 : 8+4*source.Intn(4)])}
		if source.Intn(3) == 0 {
			p.fragment = source.Intn(8)<<13 | source.Intn(3)
		}
		return "\x08\x00" + p.with(body)
	}
	p := six{proto: proto, src: string(some[:16]), dst: string(some[16:32])}
	for place := range source.Intn(10) * source.Intn(2) {
		e := extOf(extKinds[source.Intn(4)])
		if e.kind == 0 && place > 0 && source.Intn(20) > 0 {
			e = pieceAt(source.Intn(9))
		}
		p.chain = append(p.chain, e)
	}
	return "\x86\xdd" + p.with(body)
}

// anyFrame has up to three tags, and often a turned byte, an early end, or bytes behind.
func anyFrame(source *rand.Rand) string {
	tags := ""
	for range source.Intn(7) / 2 {
		tags += []string{"\x81\x00", "\x88\xa8"}[source.Intn(2)] + two(source.Intn(1<<16))
	}
	s := []byte(heads + tags + anyPacket(source))
	switch source.Intn(6) {
	case 0:
		s = s[:source.Intn(len(s)+1)]
	case 1, 2:
		s[source.Intn(len(s))] = byte(source.Intn(256))
	case 3:
		s = append(s, data(source.Intn(60))...)
	case 4:
		if source.Intn(10) == 0 {
			s = append(s, data(1900+source.Intn(200))...)
		}
	}
	return string(s)
}

// Of any frame is told what the chapters' words say; what is extracted is right, and has a key.
func TestExtractOfAnyFrame(t *testing.T) {
	source := rand.New(rand.NewSource(909))
	seen := map[api.Errno]int{}
	for range 300_000 {
		s := anyFrame(source)
		want, err := plainExtract(s)
		seen[err]++
		if err != api.OK {
			mustNotExtract(t, s, err)
			continue
		}
		mustExtract(t, s, want)
		mustKey(t, want)
	}
	for _, err := range []api.Errno{api.OK, api.ErrShort, api.ErrLong, api.ErrType, api.ErrTags, api.ErrVersion, api.ErrHeader, api.ErrCheck, api.ErrLength, api.ErrFragment, api.ErrChain, api.ErrPorts} {
		if seen[err] < 100 {
			t.Errorf("the error %d was seen %d times", err, seen[err])
		}
	}
}

// P1: whatever bytes there are, the call ends with an answer.
func TestExtractOfAnyBytes(t *testing.T) {
	source := rand.New(rand.NewSource(9009))
	for range 50_000 {
		some := make([]byte, source.Intn(120))
		source.Read(some)
		if len(some) > 14 {
			copy(some[12:], []string{"\x08\x00\x45", "\x86\xdd\x60", "\x08\x00", "\x86\xdd"}[source.Intn(4)])
		}
		want, err := plainExtract(string(some))
		if f, got := Extract(string(some)); f != want || got != err {
			t.Fatalf("Extract(%q) = %#v, %d, not %#v, %d", some, f, got, want, err)
		}
	}
}

// R4: the same is answered each time, whatever was asked between.
func TestCallsKeepNothing(t *testing.T) {
	for range 3 {
		mustExtract(t, fourFrame(fourOf(17).with(datagram())), fourFlow(17))
		mustExtract(t, fourFrame(fourOf(1).with(datagram())), portless(fourFlow(1)))
		mustNotExtract(t, fourFrame(fourOf(17).with("")), api.ErrPorts)
		mustExtract(t, sixFrame(sixOf(6).with(segment())), sixFlow(6))
		mustNotExtract(t, "", api.ErrShort)
		mustKey(t, sixFlow(6))
		mustRefuse(t, api.Flow{})
		mustKey(t, fourFlow(6))
		mustNotBeKey(t, "")
	}
}
