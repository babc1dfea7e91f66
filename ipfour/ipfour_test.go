package ipfour

import (
	"math"
	"math/rand"
	"strconv"
	"strings"
	"testing"

	"rillmeter/api"
)

const (
	src = "\x0a\x00\x00\x01"
	dst = "\x0a\x00\x00\x02"
)

var bodies = []string{"", "x", "\x00", "\xff\xff", "\x45\x00\x00\x14", "é€", "a body of some more bytes than a header has"}

// part is a number of a header: how great it may be, and where it is kept.
type part struct {
	name     string
	greatest int
	in       func(h *Header) *int
}

func parts() []part {
	return []part{
		{"TOS", 255, func(h *Header) *int { return &h.TOS }},
		{"ID", 65535, func(h *Header) *int { return &h.ID }},
		{"Flags", 7, func(h *Header) *int { return &h.Flags }},
		{"Offset", 8191, func(h *Header) *int { return &h.Offset }},
		{"TTL", 255, func(h *Header) *int { return &h.TTL }},
		{"Proto", 255, func(h *Header) *int { return &h.Proto }},
	}
}

// two writes a number of two bytes by hand, so that the tests do not lean on layer 4.
func two(n int) string { return string([]byte{byte(n >> 8), byte(n)}) }

// plainSum adds all pairs of an even number of bytes, adds what is above again at the end, and turns the bits.
func plainSum(s string) int {
	sum := 0
	for at := 0; at < len(s); at += 2 {
		sum += int(s[at])*256 + int(s[at+1])
	}
	for sum > 0xffff {
		sum = sum%0x10000 + sum/0x10000
	}
	return sum ^ 0xffff
}

// withSum puts the right sum of so many bytes from the beginning in its place.
func withSum(s string, size int) string {
	return s[:10] + two(plainSum(s[:10]+"\x00\x00"+s[12:size])) + s[12:]
}

// plainBytes writes a header that is right, and its body.
func plainBytes(h Header, body string) string {
	size := 20 + len(h.Options)
	s := string([]byte{byte(64 + 5 + len(h.Options)/4), byte(h.TOS)}) + two(size+len(body)) + two(h.ID) +
		two(h.Flags*8192+h.Offset) + string([]byte{byte(h.TTL), byte(h.Proto)}) + "\x00\x00" + h.Src + h.Dst + h.Options
	return withSum(s, size) + body
}

func header() Header {
	return Header{TOS: 1, ID: 0x1234, Flags: 2, Offset: 5, TTL: 64, Proto: 6, Src: src, Dst: dst}
}

// rightHeaders have each number at its edges, Options of each length, and some of any kind that are the same in each run.
func rightHeaders() []Header {
	list := []Header{{Src: src, Dst: dst}, {Src: "\x00\x00\x00\x00", Dst: "\x00\x00\x00\x00"}}
	full := Header{Src: "\xff\xff\xff\xff", Dst: "\xff\xff\xff\xff", Options: strings.Repeat("\xff", 40)}
	for _, p := range parts() {
		*p.in(&full) = p.greatest
		for _, n := range []int{0, 1, p.greatest / 2, p.greatest/2 + 1, p.greatest - 1, p.greatest} {
			one, alone := header(), Header{Src: src, Dst: dst}
			*p.in(&one), *p.in(&alone) = n, n
			list = append(list, one, alone)
		}
	}
	list = append(list, full)
	source := rand.New(rand.NewSource(6))
	for words := range 11 {
		for range 8 {
			some := make([]byte, 8+4*words)
			source.Read(some)
			h := Header{Src: string(some[:4]), Dst: string(some[4:8]), Options: string(some[8:])}
			for _, p := range parts() {
				*p.in(&h) = source.Intn(p.greatest + 1)
			}
			list = append(list, h)
		}
	}
	return list
}

// mustWrite holds that a header is right, and is written as by hand.
func mustWrite(t *testing.T, h Header, body string) {
	t.Helper()
	if !Right(h) {
		t.Errorf("not Right(%#v)", h)
	}
	if s, err := Put(h, body); s != plainBytes(h, body) || err != api.OK {
		t.Errorf("Put(%#v, body of %d) = %d bytes, %d", h, len(body), len(s), err)
	}
}

// mustRefuse holds that a header is not right and is not written.
func mustRefuse(t *testing.T, h Header) {
	t.Helper()
	if Right(h) {
		t.Errorf("Right(%#v)", h)
	}
	for _, body := range bodies {
		if s, err := Put(h, body); s != "" || err != api.ErrArg {
			t.Errorf("Put(%#v, %q) = %q, %d", h, body, s, err)
		}
	}
}

// mustTake holds that a header and its body are told.
func mustTake(t *testing.T, s string, h Header, body string) {
	t.Helper()
	if g, b, err := Take(s); g != h || b != body || err != api.OK {
		t.Errorf("Take(%.80q) = %#v, %.80q, %d, not %#v, %.80q", s, g, b, err, h, body)
	}
}

// mustNotTake holds that nothing but the error is told.
func mustNotTake(t *testing.T, s string, want api.Errno) {
	t.Helper()
	if h, body, err := Take(s); h != (Header{}) || body != "" || err != want {
		t.Errorf("Take(%.80q) = %#v, %.80q, %d, not the error %d alone", s, h, body, err, want)
	}
}

// P6.1: Right and Put.

func TestRightHeadersAreWritten(t *testing.T) {
	for _, h := range rightHeaders() {
		for _, body := range bodies {
			mustWrite(t, h, body)
		}
	}
}

func TestPutOfTheExample(t *testing.T) {
	h := Header{TTL: 64, Proto: 17, Src: src, Dst: dst}
	want := string([]byte{69, 0, 0, 20, 0, 0, 0, 0, 64, 17, 102, 215, 10, 0, 0, 1, 10, 0, 0, 2})
	if s, err := Put(h, ""); s != want || err != api.OK {
		t.Errorf("Put = %q, %d", s, err)
	}
	mustTake(t, want, h, "")
}

func TestPutOfKnownHeaders(t *testing.T) {
	for _, c := range []struct {
		h    Header
		body string
		want string
	}{
		// A header whose sum is known from elsewhere.
		{Header{Flags: 2, TTL: 64, Proto: 17, Src: "\xc0\xa8\x00\x01", Dst: "\xc0\xa8\x00\xc7"}, strings.Repeat("b", 95),
			"\x45\x00\x00\x73\x00\x00\x40\x00\x40\x11\xb8\x61\xc0\xa8\x00\x01\xc0\xa8\x00\xc7" + strings.Repeat("b", 95)},
		{Header{Src: "\x00\x00\x00\x00", Dst: "\x00\x00\x00\x00"}, "",
			"\x45\x00\x00\x14\x00\x00\x00\x00\x00\x00\xba\xeb\x00\x00\x00\x00\x00\x00\x00\x00"},
		{Header{TOS: 255, ID: 0xabcd, Flags: 7, Offset: 0x1234, TTL: 1, Proto: 2, Src: "abcd", Dst: "efgh", Options: "ijkl"}, "mn",
			"\x46\xff\x00\x1a\xab\xcd\xf2\x34\x01\x02\xb3\x75abcdefghijklmn"},
	} {
		if s, err := Put(c.h, c.body); s != c.want || err != api.OK {
			t.Errorf("Put(%#v, %q) = %q, %d", c.h, c.body, s, err)
		}
	}
}

func TestEveryNumberUpToTheGreatestIsRight(t *testing.T) {
	for _, p := range parts() {
		for n := range p.greatest + 1 {
			h := header()
			*p.in(&h) = n
			s, err := Put(h, "b")
			if !Right(h) || s != plainBytes(h, "b") || err != api.OK {
				t.Fatalf("%s %d: Right %t, Put %q, %d", p.name, n, Right(h), s, err)
			}
			mustTake(t, s, h, "b")
		}
	}
}

func TestNumbersThatAreWrong(t *testing.T) {
	for _, p := range parts() {
		beyond := p.greatest + 1
		for _, n := range []int{beyond, beyond + 1, 2 * beyond, 1 << 16, 1 << 32, math.MaxInt, -1, -2, -p.greatest, -beyond, math.MinInt} {
			for _, h := range []Header{header(), {Src: src, Dst: dst}, {Src: src, Dst: dst, Options: "abcd"}} {
				*p.in(&h) = n
				mustRefuse(t, h)
			}
		}
	}
}

func TestAddressesThatAreWrong(t *testing.T) {
	for _, length := range []int{0, 1, 2, 3, 5, 6, 8, 16, 300} {
		h := header()
		h.Src = strings.Repeat("a", length)
		mustRefuse(t, h)
		h.Dst = h.Src
		mustRefuse(t, h)
		h.Src = src
		mustRefuse(t, h)
	}
	// Eight bytes in all, but not four each; and a piece of the Options in an address.
	mustRefuse(t, Header{Src: "aaa", Dst: "bbbbb"})
	mustRefuse(t, Header{Src: "aaaaa", Dst: "bbb"})
	mustRefuse(t, Header{Src: "aaaa", Dst: "bbbbb", Options: "ccc"})
	// Bytes count, not signs: four signs of two bytes, and two.
	mustRefuse(t, Header{Src: "éééé", Dst: dst})
	mustRefuse(t, Header{Src: src, Dst: "éééé"})
	mustWrite(t, Header{Src: "éé", Dst: "a€"}, "")
	mustRefuse(t, Header{})
}

func TestOptions(t *testing.T) {
	for length := range 100 {
		for _, sign := range []string{"\x00", "o", "\xff"} {
			h := header()
			h.Options = strings.Repeat(sign, length)
			if length > 40 || length%4 != 0 {
				mustRefuse(t, h)
				continue
			}
			for _, body := range bodies {
				mustWrite(t, h, body)
			}
		}
	}
	for _, length := range []int{1000, 65_512, 65_516, 65_536, 1 << 20} {
		h := header()
		h.Options = strings.Repeat("o", length)
		mustRefuse(t, h)
	}
	// Bytes count, not signs: three signs of four bytes in all, and four of eight.
	mustWrite(t, Header{Src: src, Dst: dst, Options: "abé"}, "")
	mustWrite(t, Header{Src: src, Dst: dst, Options: "éééé"}, "")
	mustRefuse(t, Header{Src: src, Dst: dst, Options: "abcé"})
}

func TestPutOfTheLongestBody(t *testing.T) {
	for words := range 11 {
		h := header()
		h.Options = strings.Repeat("o", 4*words)
		most := 65_535 - 20 - 4*words
		for _, length := range []int{most - 1, most} {
			body := strings.Repeat("b", length)
			mustWrite(t, h, body)
			mustTake(t, plainBytes(h, body)+"behind", h, body)
		}
		for _, length := range []int{most + 1, most + 2, 65_535, 65_536, 65_536 + most, 1 << 20} {
			if s, err := Put(h, strings.Repeat("b", length)); s != "" || err != api.ErrArg {
				t.Errorf("Put of %d bytes of Options and %d of a body = %d bytes, %d", 4*words, length, len(s), err)
			}
		}
		if !Right(h) {
			t.Errorf("not Right(%#v)", h)
		}
	}
}

// P6.2: Take.

func TestTakeOfRightHeaders(t *testing.T) {
	for _, h := range rightHeaders() {
		for _, body := range bodies {
			s := plainBytes(h, body)
			for _, behind := range bodies {
				mustTake(t, s+behind, h, body)
			}
		}
	}
}

func TestTakeOfTooShort(t *testing.T) {
	s := plainBytes(header(), "")
	for length := range 20 {
		mustNotTake(t, s[:length], api.ErrShort)
		mustNotTake(t, strings.Repeat("\x00", length), api.ErrShort)
		mustNotTake(t, strings.Repeat("\xff", length), api.ErrShort)
	}
	mustTake(t, s, header(), "")
}

func TestTakeOfAnotherVersion(t *testing.T) {
	for version := range 16 {
		if version == 4 {
			continue
		}
		for words := range 16 {
			s := withSum(string([]byte{byte(16*version + words)})+plainBytes(header(), strings.Repeat("b", 60))[1:], 20)
			mustNotTake(t, s, api.ErrVersion)
		}
	}
}

func TestTakeOfAWrongHeadersLength(t *testing.T) {
	for words := range 5 {
		s := plainBytes(header(), "body")
		mustNotTake(t, string([]byte{byte(64 + words)})+s[1:], api.ErrHeader)
		mustNotTake(t, withSum(string([]byte{byte(64 + words)})+s[1:], 20), api.ErrHeader)
	}
	for words := 1; words <= 10; words++ {
		h := header()
		h.Options = strings.Repeat("o", 4*words)
		s := plainBytes(h, "")
		for cut := 1; cut <= 4*words; cut++ {
			mustNotTake(t, s[:len(s)-cut], api.ErrHeader)
		}
		mustTake(t, s, h, "")
	}
}

// withLength puts another length in its place, with a sum that is right.
func withLength(s string, length int) string {
	return withSum(s[:2]+two(length)+s[4:], int(s[0])%16*4)
}

func TestTakeOfAWrongLength(t *testing.T) {
	for words := range 11 {
		h := header()
		h.Options = strings.Repeat("o", 4*words)
		size := 20 + 4*words
		for _, body := range bodies {
			s := plainBytes(h, body)
			for length := range size {
				mustNotTake(t, withLength(s, length), api.ErrLength)
			}
			for length := size; length <= len(s); length++ {
				mustTake(t, withLength(s, length), h, s[size:length])
			}
			for _, length := range []int{len(s) + 1, len(s) + 2, len(s) + 4, 256 + len(s), 65_535} {
				mustNotTake(t, withLength(s, length), api.ErrLength)
			}
		}
	}
}

// Of all numbers that may stand in the sum's place, one is right.
func TestTakeOfAWrongSum(t *testing.T) {
	h := header()
	h.Options = "opts"
	s := plainBytes(h, "body")
	for sum := range 1 << 16 {
		other := s[:10] + two(sum) + s[12:]
		if other == s {
			mustTake(t, other, h, "body")
		} else {
			mustNotTake(t, other, api.ErrCheck)
		}
	}
}

// The promise asks for the sum of the header alone: 2^16 - 1 in the place of a sum of 0 makes the same.
func TestTakeOfASumOfNought(t *testing.T) {
	h := Header{Src: src, Dst: dst}
	for h.ID = 0; plainBytes(h, "")[10:12] != "\x00\x00"; h.ID++ {
	}
	s := withLength(plainBytes(h, "body"), 20)
	mustTake(t, s, h, "")
	mustTake(t, s[:10]+"\xff\xff"+s[12:], h, "")
	mustNotTake(t, s[:10]+"\x00\xff"+s[12:], api.ErrCheck)
	mustNotTake(t, s[:10]+"\xff\x00"+s[12:], api.ErrCheck)
	if put, err := Put(h, ""); put != s[:20] || err != api.OK {
		t.Errorf("Put(%#v) = %q, %d", h, put, err)
	}
}

// The body is no part of the sum, and Options are.
func TestTheSumIsOfTheHeaderAlone(t *testing.T) {
	h := header()
	h.Options = "optsopts"
	s := plainBytes(h, "body")
	mustTake(t, s[:28]+"BODY", h, "BODY")
	for at := 20; at < 28; at++ {
		turned := []byte(s)
		turned[at] ^= 0x20
		mustNotTake(t, string(turned), api.ErrCheck)
	}
}

// firstError goes by the promise's order through what a text was made of.
func firstError(bytes, version, words, length int, sumIsRight bool) api.Errno {
	switch {
	case bytes < 20:
		return api.ErrShort
	case version != 4:
		return api.ErrVersion
	case words < 5 || 4*words > bytes:
		return api.ErrHeader
	case length < 4*words || length > bytes:
		return api.ErrLength
	case !sumIsRight:
		return api.ErrCheck
	}
	return api.OK
}

// made is a text of so many bytes with these parts, its sum right or wrong.
func made(bytes, version, words, length int, sumIsRight bool) string {
	s := string([]byte{byte(16*version + words), 7}) + two(length) + strings.Repeat("made of this", 8)
	size := max(12, 4*words)
	s = withSum(s, size)
	if !sumIsRight {
		s = s[:11] + string([]byte{s[11] ^ 1}) + s[12:]
	}
	return s[:bytes]
}

// Any of the five faults with any others: the first of the promise's order is told.
func TestTheFirstErrorIsTold(t *testing.T) {
	seen := map[api.Errno]int{}
	for _, version := range []int{0, 3, 4, 5, 6, 12, 15} {
		for words := range 16 {
			for bytes := range 68 {
				for _, length := range []int{0, 1, 19, 20, 4*words - 1, 4 * words, 4*words + 1, bytes - 1, bytes, bytes + 1, 65_535} {
					for _, sumIsRight := range []bool{true, false} {
						if length < 0 {
							continue
						}
						s := made(bytes, version, words, length, sumIsRight)
						want := firstError(bytes, version, words, length, sumIsRight)
						seen[want]++
						if want != api.OK {
							mustNotTake(t, s, want)
						} else if _, body, err := Take(s); body != s[4*words:length] || err != api.OK {
							t.Errorf("Take(%q) = %q, %d", s, body, err)
						}
					}
				}
			}
		}
	}
	for _, want := range []api.Errno{api.OK, api.ErrShort, api.ErrVersion, api.ErrHeader, api.ErrLength, api.ErrCheck} {
		if seen[want] == 0 {
			t.Errorf("no text of the error %d", want)
		}
	}
}

func TestTakeOfAnyText(t *testing.T) {
	source := rand.New(rand.NewSource(62))
	for range 20_000 {
		some := make([]byte, source.Intn(80))
		source.Read(some)
		if len(some) > 3 && source.Intn(4) > 0 {
			some[0], some[2], some[3] = byte(64+source.Intn(16)), 0, byte(source.Intn(80))
		}
		s := string(some)
		if h, body, err := Take(s); err != api.OK {
			mustNotTake(t, s, err)
		} else if !Right(h) || !strings.Contains(s, h.Options+body) {
			t.Errorf("Take(%q) = %#v, %q", s, h, body)
		}
	}
}

// P6.3.

func TestWhatIsWrittenIsTakenBack(t *testing.T) {
	// Another header behind is no part of the first.
	behinds := append([]string{plainBytes(header(), "next"), strings.Repeat("\x00", 100), strings.Repeat("\xff", 70_000)}, bodies...)
	for _, h := range rightHeaders() {
		for _, body := range bodies {
			s, err := Put(h, body)
			if err != api.OK {
				t.Fatalf("Put(%#v, %q): %d", h, body, err)
			}
			for _, behind := range behinds {
				mustTake(t, s+behind, h, body)
			}
		}
	}
}

func TestATurnedByteIsNotTakenForWhatItWas(t *testing.T) {
	for _, h := range rightHeaders() {
		for _, body := range []string{"", "body of some bytes"} {
			s, _ := Put(h, body)
			size := 20 + len(h.Options)
			for at := range size {
				turned := []byte(s + "some more bytes, that stand behind")
				for range 255 {
					turned[at]++
					g, _, err := Take(string(turned))
					// With the first byte another length is told, and of that many bytes the sum may be right.
					if g == h || (err == api.OK && at > 0) {
						t.Fatalf("the byte %d of %q turned to %d is taken: %#v, %d", at, s, turned[at], g, err)
					}
				}
			}
		}
	}
}

// Where the first byte is turned so that the sum of the longer header is right, another header is taken.
func TestATurnedFirstByteMayTellAnotherHeader(t *testing.T) {
	h := header()
	body := "\xfe\xff\x00\x00body"
	s, _ := Put(h, body)
	mustTake(t, s, h, body)
	h.Options = body[:4]
	mustTake(t, "\x46"+s[1:], h, body[4:])
}

// P1 and R4: the same is answered each time, and what was handed in stays.
func TestCallsKeepNothing(t *testing.T) {
	h := header()
	h.Options = "opts"
	before := h
	for i := range 3 {
		first, err := Put(h, "body"+strconv.Itoa(i))
		if err != api.OK || h != before {
			t.Fatalf("Put = %q, %d; the header is %#v", first, err, h)
		}
		mustNotTake(t, first[:19], api.ErrShort)
		mustTake(t, first, before, "body"+strconv.Itoa(i))
	}
}
