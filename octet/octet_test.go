package octet

import (
	"math"
	"math/big"
	"math/rand"
	"strings"
	"testing"

	"rillmeter/api"
)

// plainBytes writes a number by one of any size.
func plainBytes(n int, bytes int) string {
	return string(big.NewInt(int64(n)).FillBytes(make([]byte, bytes)))
}

// plainSum adds all pairs first, with a number of any size, and adds what is above again at the end alone.
func plainSum(s string) int {
	if len(s)%2 == 1 {
		s += "\x00"
	}
	sum, top := new(big.Int), big.NewInt(1<<16)
	for ; s != ""; s = s[2:] {
		sum.Add(sum, new(big.Int).SetBytes([]byte(s[:2])))
	}
	for sum.Cmp(top) >= 0 {
		above, below := new(big.Int).DivMod(sum, top, new(big.Int))
		sum.Add(above, below)
	}
	return int(sum.Int64()) ^ 0xffff
}

// numbers that fit so many bytes: the least, the greatest, those round each byte's end, and some that are the same in each run.
func numbers(bytes int) []int {
	end := 1 << (8 * bytes)
	list := []int{0, 1, 2, end/2 - 1, end / 2, end - 2, end - 1}
	for i := 1; i < bytes; i++ {
		list = append(list, 1<<(8*i)-1, 1<<(8*i), 1<<(8*i)+1)
	}
	source := rand.New(rand.NewSource(int64(bytes)))
	for range 20 {
		list = append(list, source.Intn(end))
	}
	return list
}

// texts are of noughts, of the highest bytes and of any, of even and odd lengths.
func texts() []string {
	list := []string{"", "a", "\x00", "\xff", "\x01\x02", "\x01\x02\x03", "\xff\xff\x00\x01", "\xff\xfe\x00\x01", "\x80\x00\x80\x00", "é€", "\xff\x00\xff"}
	source := rand.New(rand.NewSource(4))
	for _, length := range []int{1, 2, 3, 4, 5, 19, 20, 21, 40, 255, 256, 1499, 1500, 70_000, 200_001} {
		some := make([]byte, length)
		source.Read(some)
		list = append(list, string(some), strings.Repeat("\x00", length), strings.Repeat("\xff", length))
	}
	return list
}

var wrongWidths = []int{math.MinInt, -8, -1, 0, 8, 9, 64, 1 << 32, math.MaxInt}

// P4.1: Put.

func TestPutWritesTheHighestByteFirst(t *testing.T) {
	for bytes := 1; bytes <= 7; bytes++ {
		for _, n := range numbers(bytes) {
			if s, err := Put(n, bytes); s != plainBytes(n, bytes) || err != api.OK {
				t.Errorf("Put(%d, %d) = %q, %d", n, bytes, s, err)
			}
		}
	}
	if s, err := Put(258, 2); s != "\x01\x02" || err != api.OK {
		t.Errorf("Put(258, 2) = %q, %d", s, err)
	}
	if s, err := Put(0x01020304050607, 7); s != "\x01\x02\x03\x04\x05\x06\x07" || err != api.OK {
		t.Errorf("Put of 7 bytes = %q, %d", s, err)
	}
}

func TestPutRefusesNumbersThatDoNotFit(t *testing.T) {
	for bytes := 1; bytes <= 7; bytes++ {
		end := 1 << (8 * bytes)
		for _, n := range []int{end, end + 1, 2 * end, 1 << 56, math.MaxInt, -1, -end, -end + 1, math.MinInt} {
			if s, err := Put(n, bytes); s != "" || err != api.ErrArg {
				t.Errorf("Put(%d, %d) = %q, %d", n, bytes, s, err)
			}
		}
	}
}

func TestPutRefusesWrongWidths(t *testing.T) {
	for _, bytes := range wrongWidths {
		for _, n := range []int{0, 1, 255, -1, 1 << 56, math.MaxInt, math.MinInt} {
			if s, err := Put(n, bytes); s != "" || err != api.ErrArg {
				t.Errorf("Put(%d, %d) = %q, %d", n, bytes, s, err)
			}
		}
	}
}

// P4.1: Take.

func TestTakeTellsTheNumberAndTheRest(t *testing.T) {
	for bytes := 1; bytes <= 7; bytes++ {
		for _, n := range numbers(bytes) {
			for _, rest := range []string{"", "z", "\x00", "\xff\xff", "a longer rest"} {
				s := plainBytes(n, bytes) + rest
				if got, left, err := Take(s, bytes); got != n || left != rest || err != api.OK {
					t.Errorf("Take(%q, %d) = %d, %q, %d", s, bytes, got, left, err)
				}
			}
		}
	}
}

func TestTakeOfTooShort(t *testing.T) {
	for bytes := 1; bytes <= 7; bytes++ {
		for length := range bytes {
			s := strings.Repeat("\xff", length)
			if n, rest, err := Take(s, bytes); n != 0 || rest != "" || err != api.ErrShort {
				t.Errorf("Take(%q, %d) = %d, %q, %d", s, bytes, n, rest, err)
			}
		}
	}
}

// A wrong number of bytes is named ahead of a text that is too short.
func TestTakeRefusesWrongWidths(t *testing.T) {
	for _, bytes := range wrongWidths {
		for _, s := range []string{"", "a", "abcdefgh", strings.Repeat("long", 50)} {
			if n, rest, err := Take(s, bytes); n != 0 || rest != "" || err != api.ErrArg {
				t.Errorf("Take(%q, %d) = %d, %q, %d", s, bytes, n, rest, err)
			}
		}
	}
}

// P4.1: Cut.

func TestCutTellsThePieceAndTheRest(t *testing.T) {
	for _, s := range texts() {
		for _, bytes := range []int{0, 1, 2, 7, 8, 9, 300, len(s) / 2, len(s) - 1, len(s)} {
			if bytes < 0 || bytes > len(s) {
				continue
			}
			piece, rest, err := Cut(s, bytes)
			if piece != s[:bytes] || rest != s[bytes:] || err != api.OK {
				t.Errorf("Cut of %d bytes at %d = %d and %d bytes, %d", len(s), bytes, len(piece), len(rest), err)
			}
		}
	}
	if piece, rest, err := Cut("abcdefghij", 9); piece != "abcdefghi" || rest != "j" || err != api.OK {
		t.Errorf("Cut of 9 = %q, %q, %d", piece, rest, err)
	}
}

func TestCutOfTooShort(t *testing.T) {
	for _, s := range texts() {
		for _, bytes := range []int{len(s) + 1, len(s) + 2, 2*len(s) + 1, 1 << 40, math.MaxInt} {
			if piece, rest, err := Cut(s, bytes); piece != "" || rest != "" || err != api.ErrShort {
				t.Errorf("Cut of %d bytes at %d = %d and %d bytes, %d", len(s), bytes, len(piece), len(rest), err)
			}
		}
	}
}

func TestCutRefusesBelowNought(t *testing.T) {
	for _, bytes := range []int{-1, -2, -8, math.MinInt + 1, math.MinInt} {
		for _, s := range []string{"", "a", "abc"} {
			if piece, rest, err := Cut(s, bytes); piece != "" || rest != "" || err != api.ErrArg {
				t.Errorf("Cut(%q, %d) = %q, %q, %d", s, bytes, piece, rest, err)
			}
		}
	}
}

// P4.2.

func TestSumOfKnownTexts(t *testing.T) {
	for s, want := range map[string]int{
		"":                         65535,
		"\x00":                     65535,
		"\x00\x00\x00":             65535,
		"\x01":                     65279,
		"\x01\x02":                 65277,
		"\x01\x02\x03":             64509,
		"\xff\xff":                 0,
		"\xff":                     255,
		"\xff\xff\xff\xff":         0,
		"\xff\xff\x00\x01":         65534,
		"\xff\xfe\x00\x01":         0,
		"\x80\x00\x80\x00":         65534,
		"\xff\xff\xff\xff\x00\x01": 65534,
		// A header of version 4, its sum's place with noughts.
		"\x45\x00\x00\x73\x00\x00\x40\x00\x40\x11\x00\x00\xc0\xa8\x00\x01\xc0\xa8\x00\xc7": 0xb861,
	} {
		if got := Sum(s); got != want {
			t.Errorf("Sum(%q) = %d, not %d", s, got, want)
		}
	}
}

// A sum whose first adding again goes above 2^16 - 1 once more: the pairs make 2^17 - 1.
func TestSumIsAddedAgainUntilNothingIsAbove(t *testing.T) {
	if got := Sum("\xff\xff\xff\xff\x00\x01"); got != 65534 {
		t.Errorf("Sum = %d", got)
	}
	// As many pairs of 2^16 - 1 as make a sum of 33 bits, with a last 1 that goes above again.
	long := strings.Repeat("\xff\xff", 1<<17)
	for last, want := range map[string]int{"": 0, "\x00\x01": 65534, "\xff": 255, "\xff\xff": 0} {
		if got := Sum(long + last); got != want {
			t.Errorf("Sum of a long text and %q = %d, not %d", last, got, want)
		}
	}
}

func TestSumIsThatOfThePlainWay(t *testing.T) {
	for _, s := range texts() {
		if got, want := Sum(s), plainSum(s); got != want {
			t.Errorf("Sum of %d bytes = %d, not %d", len(s), got, want)
		}
	}
	for n := range 1 << 16 {
		s := plainBytes(n, 2)
		if Sum(s) != n^0xffff || Sum(s+"\x80\x01") != plainSum(s+"\x80\x01") {
			t.Fatalf("Sum(%q) = %d, Sum(%q) = %d", s, Sum(s), s+"\x80\x01", Sum(s+"\x80\x01"))
		}
	}
}

// P4.3.

func TestWhatIsWrittenIsTakenBack(t *testing.T) {
	for bytes := 1; bytes <= 7; bytes++ {
		for _, n := range numbers(bytes) {
			s, err := Put(n, bytes)
			if err != api.OK || len(s) != bytes {
				t.Fatalf("Put(%d, %d) = %q, %d", n, bytes, s, err)
			}
			if got, rest, err := Take(s+"rest", bytes); got != n || rest != "rest" || err != api.OK {
				t.Errorf("Take(%q, %d) = %d, %q, %d", s+"rest", bytes, got, rest, err)
			}
		}
	}
}

func TestSeveralNumbersAreTakenBackOneByOne(t *testing.T) {
	text := ""
	for bytes := 1; bytes <= 7; bytes++ {
		for _, n := range numbers(bytes) {
			s, _ := Put(n, bytes)
			text += s
		}
	}
	for bytes := 1; bytes <= 7; bytes++ {
		for _, n := range numbers(bytes) {
			got, rest, err := Take(text, bytes)
			if got != n || err != api.OK {
				t.Fatalf("taken %d, %d, not %d", got, err, n)
			}
			text = rest
		}
	}
	if text != "" {
		t.Errorf("%q is left", text)
	}
}

func TestBytesWithTheirSumBehindHaveTheSumNought(t *testing.T) {
	for _, s := range texts() {
		if len(s)%2 == 1 {
			continue
		}
		behind, err := Put(Sum(s), 2)
		if err != api.OK || Sum(s+behind) != 0 {
			t.Errorf("%d bytes with their sum %q, %d behind have the sum %d", len(s), behind, err, Sum(s+behind))
		}
	}
}

func TestPairsInAnotherOrderHaveTheSameSum(t *testing.T) {
	source := rand.New(rand.NewSource(43))
	for _, s := range texts() {
		if len(s)%2 == 1 {
			continue
		}
		var other strings.Builder
		for _, i := range source.Perm(len(s) / 2) {
			other.WriteString(s[2*i : 2*i+2])
		}
		if Sum(other.String()) != Sum(s) {
			t.Errorf("the sum of %d bytes is %d, turned about %d", len(s), Sum(s), Sum(other.String()))
		}
	}
}
