package port

import (
	"math"
	"math/rand"
	"strings"
	"testing"

	"rillmeter/api"
)

var (
	bodies     = []string{"", "x", "\x00", "\xff\xff", "four", "é€", "\x00\x35\x03\xe8\x00\x09\x00\x00x", "a body of some more bytes than the sixty that a head may have", strings.Repeat("\xff", 300)}
	rightPorts = []int{0, 1, 53, 255, 256, 1000, 32_767, 32_768, 65_280, 65_534, 65_535}
	wrongPorts = []int{math.MinInt, math.MinInt32, -65_536, -65_535, -256, -2, -1, 65_536, 65_537, 1 << 17, 1 << 32, 1<<32 + 53, math.MaxInt}
	wrongTypes = []int{math.MinInt, 6 - 1<<32, -1 << 16, 6 - 256, 17 - 256, 256 + 6, 256 + 17, 1<<16 + 6, 1<<32 + 6, 1<<32 + 17, math.MaxInt}
)

// one and two write numbers by hand, so that the tests do not lean on layer 4.
func one(n int) string { return string([]byte{byte(n)}) }

func two(n int) string { return string([]byte{byte(n / 256), byte(n % 256)}) }

// data is so long, and no two bytes of it that stand near each other are the same.
func data(length int) string {
	some := make([]byte, length)
	for i := range some {
		some[i] = byte(i*7 + 1)
	}
	return string(some)
}

// plainSegment is one as TCP should write it.
func plainSegment(src, dst int, options, body string) string {
	return two(src) + two(dst) + "\x00\x00\x00\x00\x00\x00\x00\x00" + one(16*(5+len(options)/4)) +
		"\x00\x00\x00\x00\x00\x00\x00" + options + body
}

// plainDatagram is one as UDP should write it.
func plainDatagram(src, dst int, body string) string {
	return two(src) + two(dst) + two(8+len(body)) + "\x00\x00" + body
}

// segmentOf has so many bytes, none of which tells anything but the ports and the head's length, and no noughts where TCP writes them.
func segmentOf(src, dst int, fours, bytes int) string {
	return two(src) + two(dst) + data(bytes)[4:12] + one(16*fours+9) + data(bytes)[13:]
}

// datagramOf has so many bytes, whatever its length says.
func datagramOf(src, dst int, length, bytes int) string {
	return two(src) + two(dst) + two(length) + data(bytes)[6:]
}

// mustTake holds that ports and body are told.
func mustTake(t *testing.T, proto int, s string, src, dst int, body string) {
	t.Helper()
	if a, b, rest, err := Take(proto, s); a != src || b != dst || rest != body || err != api.OK {
		t.Fatalf("Take(%d, %.80q) = %d, %d, %.80q (%d bytes), %d, not %d, %d, %.80q (%d bytes)",
			proto, s, a, b, rest, len(rest), err, src, dst, body, len(body))
	}
}

// mustNotTake holds that nothing but the error is told.
func mustNotTake(t *testing.T, proto int, s string, want api.Errno) {
	t.Helper()
	if a, b, rest, err := Take(proto, s); a != 0 || b != 0 || rest != "" || err != want {
		t.Fatalf("Take(%d, %.80q of %d bytes) = %d, %d, %.80q, %d, not the error %d alone", proto, s, len(s), a, b, rest, err, want)
	}
}

// mustWriteTCP holds that a segment is as by hand, and is taken back.
func mustWriteTCP(t *testing.T, src, dst int, options, body string) {
	t.Helper()
	s, err := TCP(src, dst, options, body)
	if s != plainSegment(src, dst, options, body) || err != api.OK {
		t.Fatalf("TCP(%d, %d, %q, body of %d bytes) = %.80q, %d", src, dst, options, len(body), s, err)
	}
	mustTake(t, 6, s, src, dst, body)
}

// mustWriteUDP holds that a datagram is as by hand, and is taken back, whatever stands behind.
func mustWriteUDP(t *testing.T, src, dst int, body string) {
	t.Helper()
	s, err := UDP(src, dst, body)
	if s != plainDatagram(src, dst, body) || err != api.OK {
		t.Fatalf("UDP(%d, %d, body of %d bytes) = %.80q, %d", src, dst, len(body), s, err)
	}
	for _, behind := range bodies {
		mustTake(t, 17, s+behind, src, dst, body)
	}
}

func mustRefuseTCP(t *testing.T, src, dst int, options, body string) {
	t.Helper()
	if s, err := TCP(src, dst, options, body); s != "" || err != api.ErrArg {
		t.Fatalf("TCP(%d, %d, options of %d bytes, body of %d bytes) = %.80q, %d", src, dst, len(options), len(body), s, err)
	}
}

func mustRefuseUDP(t *testing.T, src, dst int, body string) {
	t.Helper()
	if s, err := UDP(src, dst, body); s != "" || err != api.ErrArg {
		t.Fatalf("UDP(%d, %d, body of %d bytes) = %.80q, %d", src, dst, len(body), s, err)
	}
}

// P8.1: Take.

// A text that is a segment as well as a datagram is taken by its proto alone.
func both() string {
	return "\x00\x35\x03\xe8\x00\x16\x00\x00\x00\x00\x00\x00\x50\x00\x00\x00\x00\x00\x00\x00body"
}

func TestTakeOfEachProto(t *testing.T) {
	s := both()
	for proto := -600; proto <= 600; proto++ {
		switch proto {
		case 6:
			mustTake(t, proto, s, 53, 1000, "body")
		case 17:
			mustTake(t, proto, s, 53, 1000, s[8:22])
		default:
			mustNotTake(t, proto, s, api.ErrType)
		}
	}
	for _, proto := range wrongTypes {
		mustNotTake(t, proto, s, api.ErrType)
	}
}

// ErrType is named first: of what is no segment and no datagram, too.
func TestAnotherProtoIsToldFirst(t *testing.T) {
	for _, s := range []string{"", "\x00", strings.Repeat("\x00", 8), strings.Repeat("\x00", 20), strings.Repeat("\xff", 40)} {
		mustNotTake(t, 6, s, api.ErrPorts)
		mustNotTake(t, 17, s, api.ErrPorts)
		for proto := range 256 {
			if proto != 6 && proto != 17 {
				mustNotTake(t, proto, s, api.ErrType)
			}
		}
		for _, proto := range append(wrongTypes, -1, 256) {
			mustNotTake(t, proto, s, api.ErrType)
		}
	}
}

func TestTakeOfTooShortASegment(t *testing.T) {
	for _, s := range []string{plainSegment(53, 1000, "", ""), plainSegment(53, 1000, data(40), "body"), strings.Repeat("\x00", 20), strings.Repeat("\x50", 20), strings.Repeat("\xff", 60), strings.Repeat("\x10", 20)} {
		for length := range 20 {
			mustNotTake(t, 6, s[:length], api.ErrPorts)
		}
	}
	mustTake(t, 6, plainSegment(53, 1000, "", ""), 53, 1000, "")
}

// Each length of a head with each number of bytes: all that stands behind the head is told.
func TestTakeOfEachHead(t *testing.T) {
	for fours := range 16 {
		for bytes := 20; bytes <= 90; bytes++ {
			s := segmentOf(1000, 80, fours, bytes)
			if fours < 5 || 4*fours > bytes {
				mustNotTake(t, 6, s, api.ErrPorts)
			} else {
				mustTake(t, 6, s, 1000, 80, s[4*fours:])
			}
		}
	}
}

func TestTakeOfHeadsAtTheEdges(t *testing.T) {
	for fours := range 5 {
		mustNotTake(t, 6, segmentOf(1, 2, fours, 20), api.ErrPorts)
		mustNotTake(t, 6, segmentOf(1, 2, fours, 2000), api.ErrPorts)
	}
	for fours := 5; fours <= 15; fours++ {
		mustTake(t, 6, segmentOf(1, 2, fours, 4*fours), 1, 2, "")
		if fours > 5 {
			mustNotTake(t, 6, segmentOf(1, 2, fours, 4*fours-1), api.ErrPorts)
			mustNotTake(t, 6, segmentOf(1, 2, fours, 4*fours-4), api.ErrPorts)
		}
	}
}

// The lower four bits beside a head's length, and all else that has no place in the promise, count for nothing.
func TestOtherBytesOfASegmentCountForNothing(t *testing.T) {
	for low := range 16 {
		s := plainSegment(53, 1000, "opts", "body")
		mustTake(t, 6, s[:12]+one(0x60+low)+s[13:], 53, 1000, "body")
		mustNotTake(t, 6, s[:12]+one(0x40+low)+s[13:], api.ErrPorts)
		mustNotTake(t, 6, s[:12]+one(0x80+low)+s[13:], api.ErrPorts)
	}
	for at := 4; at < 24; at++ {
		if at == 12 {
			continue
		}
		for n := range 256 {
			s := []byte(plainSegment(53, 1000, "opts", "body"))
			s[at] = byte(n)
			mustTake(t, 6, string(s), 53, 1000, "body")
		}
	}
}

// A segment tells no length of its own: more than 2^16 bytes behind the head are all told.
func TestAllBehindAHeadIsTold(t *testing.T) {
	for _, length := range []int{0, 1, 3, 4, 255, 1480, 65_515, 65_516, 65_535, 65_536, 70_001, 200_000} {
		body := data(length)
		for _, options := range []string{"", "opts", data(40)} {
			mustTake(t, 6, plainSegment(65_535, 1, options, body), 65_535, 1, body)
		}
	}
}

func TestTakeOfTooShortADatagram(t *testing.T) {
	for _, s := range []string{plainDatagram(53, 1000, ""), plainDatagram(53, 1000, "body"), strings.Repeat("\x00", 8), strings.Repeat("\xff", 8), "\x00\x00\x00\x00\x00\x00\x00\x00", "\x00\x01\x00\x01\x00\x01\x00\x01"} {
		for length := range 8 {
			mustNotTake(t, 17, s[:length], api.ErrPorts)
		}
	}
	for length := range 8 {
		// With as many bytes as it tells it is too short all the same.
		mustNotTake(t, 17, ("\x00\x35\x03\xe8" + two(length) + "\x00\x00")[:length], api.ErrPorts)
	}
	mustTake(t, 17, plainDatagram(53, 1000, ""), 53, 1000, "")
}

// Each length with each number of bytes: what stands behind the length is not told.
func TestTakeOfEachLength(t *testing.T) {
	for bytes := 8; bytes <= 40; bytes++ {
		for length := range 600 {
			s := datagramOf(1000, 80, length, bytes)
			if length < 8 || length > bytes {
				mustNotTake(t, 17, s, api.ErrPorts)
			} else {
				mustTake(t, 17, s, 1000, 80, s[8:length])
			}
		}
	}
}

func TestTakeOfLengthsAtTheEdges(t *testing.T) {
	for _, bytes := range []int{8, 9, 10, 255, 256, 257, 1500, 65_534, 65_535, 65_536, 65_537, 70_000} {
		for _, length := range []int{0, 1, 7, 8, 9, 255, 256, 257, bytes - 1, bytes, bytes + 1, bytes + 256, 32_767, 32_768, 65_534, 65_535} {
			if length > 65_535 {
				continue
			}
			s := datagramOf(7, 8, length, bytes)
			if length < 8 || length > bytes {
				mustNotTake(t, 17, s, api.ErrPorts)
			} else {
				mustTake(t, 17, s, 7, 8, s[8:length])
			}
		}
	}
}

// The sum of a datagram counts for nothing.
func TestTheSumOfADatagramCountsForNothing(t *testing.T) {
	for n := range 1 << 16 {
		mustTake(t, 17, "\x00\x35\x03\xe8\x00\x0a"+two(n)+"hibehind", 53, 1000, "hi")
	}
}

func TestTakeOfEachPort(t *testing.T) {
	for n := range 1 << 16 {
		mustTake(t, 6, plainSegment(n, 1000, "", "body"), n, 1000, "body")
		mustTake(t, 6, plainSegment(53, n, "", "body"), 53, n, "body")
		mustTake(t, 17, plainDatagram(n, 1000, "body"), n, 1000, "body")
		mustTake(t, 17, plainDatagram(53, n, "body"), 53, n, "body")
	}
}

// P8.2: TCP.

func TestTCPOfKnownSegments(t *testing.T) {
	for _, c := range []struct {
		src, dst      int
		options, body string
		want          string
	}{
		{0, 0, "", "", "\x00\x00\x00\x00\x00\x00\x00\x00\x00\x00\x00\x00\x50\x00\x00\x00\x00\x00\x00\x00"},
		{1000, 80, "opts", "body", "\x03\xe8\x00\x50\x00\x00\x00\x00\x00\x00\x00\x00\x60\x00\x00\x00\x00\x00\x00\x00optsbody"},
		{65_535, 258, "0123456789abcdefghijklmnopqrstuvwxyzABCD", "x", "\xff\xff\x01\x02\x00\x00\x00\x00\x00\x00\x00\x00\xf0\x00\x00\x00\x00\x00\x00\x000123456789abcdefghijklmnopqrstuvwxyzABCDx"},
	} {
		if s, err := TCP(c.src, c.dst, c.options, c.body); s != c.want || err != api.OK {
			t.Errorf("TCP(%d, %d, %q, %q) = %q, %d", c.src, c.dst, c.options, c.body, s, err)
		}
	}
}

func TestTCPOfOptionsOfEachLength(t *testing.T) {
	for length := range 140 {
		for _, body := range bodies {
			if length <= 40 && length%4 == 0 {
				mustWriteTCP(t, 1000, 80, data(length), body)
			} else {
				mustRefuseTCP(t, 1000, 80, data(length), body)
			}
		}
	}
	for _, length := range []int{255, 256, 256 + 4, 1 << 16, 1<<16 + 40} {
		mustRefuseTCP(t, 1000, 80, data(length), "body")
	}
}

// A segment's body may be of any length.
func TestTCPOfLongBodies(t *testing.T) {
	for _, length := range []int{1480, 65_475, 65_515, 65_516, 65_535, 65_536, 200_000} {
		mustWriteTCP(t, 1, 2, "", data(length))
		mustWriteTCP(t, 1, 2, data(40), data(length))
	}
}

func TestTCPOfWrongPorts(t *testing.T) {
	for _, wrong := range wrongPorts {
		for _, options := range []string{"", "opts", "abc", data(40), data(44)} {
			for _, body := range bodies {
				for _, right := range rightPorts {
					mustRefuseTCP(t, wrong, right, options, body)
					mustRefuseTCP(t, right, wrong, options, body)
				}
				mustRefuseTCP(t, wrong, wrong, options, body)
			}
		}
	}
}

// P8.2: UDP.

func TestUDPOfTheExample(t *testing.T) {
	want := string([]byte{0, 53, 3, 232, 0, 9, 0, 0, 'x'})
	if s, err := UDP(53, 1000, "x"); s != want || err != api.OK {
		t.Errorf("UDP(53, 1000, x) = %q, %d", s, err)
	}
	mustTake(t, 17, want, 53, 1000, "x")
}

func TestUDPOfBodiesAtTheEdges(t *testing.T) {
	for _, length := range []int{0, 1, 7, 8, 247, 248, 255, 256, 1472, 32_759, 32_760, 65_526, 65_527} {
		mustWriteUDP(t, 65_535, 53, data(length))
	}
	for _, length := range []int{65_528, 65_529, 65_534, 65_535, 65_536, 65_537, 131_063, 131_064, 200_000} {
		mustRefuseUDP(t, 65_535, 53, data(length))
		mustRefuseUDP(t, 0, 0, data(length))
	}
}

func TestUDPOfWrongPorts(t *testing.T) {
	for _, wrong := range wrongPorts {
		for _, body := range append(bodies, data(65_527), data(65_528)) {
			for _, right := range rightPorts {
				mustRefuseUDP(t, wrong, right, body)
				mustRefuseUDP(t, right, wrong, body)
			}
			mustRefuseUDP(t, wrong, wrong, body)
		}
	}
}

// P8.3.

func TestWhatIsWrittenIsTakenBack(t *testing.T) {
	for _, src := range rightPorts {
		for _, dst := range rightPorts {
			for _, body := range bodies {
				mustWriteUDP(t, src, dst, body)
				for length := 0; length <= 40; length += 4 {
					mustWriteTCP(t, src, dst, data(length), body)
				}
			}
		}
	}
}

func TestAnythingWrittenIsTakenBack(t *testing.T) {
	source := rand.New(rand.NewSource(8))
	for range 20_000 {
		some := make([]byte, 40+source.Intn(200))
		source.Read(some)
		options, body := string(some[:4*source.Intn(11)]), string(some[40:])
		src, dst := source.Intn(1<<16), source.Intn(1<<16)
		mustWriteTCP(t, src, dst, options, body)
		mustWriteUDP(t, src, dst, body)
	}
}

// anyText is one whose head's length, and whose own, are often near what they may be.
func anyText(source *rand.Rand) string {
	some := make([]byte, source.Intn(90))
	source.Read(some)
	if len(some) > 5 && source.Intn(4) > 0 {
		some[4], some[5] = 0, byte(source.Intn(len(some)+3))
	}
	return string(some)
}

// Of any text is told what the chapter's words say, counted out by hand.
func TestTakeOfAnyText(t *testing.T) {
	source := rand.New(rand.NewSource(88))
	taken, refused := [2]int{}, [2]int{}
	for range 100_000 {
		s := anyText(source)
		if len(s) >= 20 && s[12]/16 >= 5 && int(s[12]/16)*4 <= len(s) {
			taken[0]++
			mustTake(t, 6, s, int(s[0])*256+int(s[1]), int(s[2])*256+int(s[3]), s[s[12]/16*4:])
		} else {
			refused[0]++
			mustNotTake(t, 6, s, api.ErrPorts)
		}
		if len(s) >= 8 && int(s[4])*256+int(s[5]) >= 8 && int(s[4])*256+int(s[5]) <= len(s) {
			taken[1]++
			mustTake(t, 17, s, int(s[0])*256+int(s[1]), int(s[2])*256+int(s[3]), s[8:int(s[4])*256+int(s[5])])
		} else {
			refused[1]++
			mustNotTake(t, 17, s, api.ErrPorts)
		}
	}
	if min(taken[0], taken[1], refused[0], refused[1]) < 1000 {
		t.Fatalf("taken %d, refused %d", taken, refused)
	}
}

// R4: the same is answered each time, whatever was asked between.
func TestCallsKeepNothing(t *testing.T) {
	for range 3 {
		mustWriteTCP(t, 1000, 80, "opts", "body")
		mustRefuseTCP(t, -1, 80, "opts", "body")
		mustWriteUDP(t, 53, 1000, "body")
		mustRefuseUDP(t, 53, 65_536, "body")
		mustNotTake(t, 6, "", api.ErrPorts)
		mustNotTake(t, 17, "", api.ErrPorts)
		mustNotTake(t, 1, both(), api.ErrType)
		mustTake(t, 6, both(), 53, 1000, "body")
	}
}
