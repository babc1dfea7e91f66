package hash

import (
	"math"
	"math/big"
	"math/rand"
	"strings"
	"testing"

	"rillmeter/api"
)

var prime = big.NewInt(api.P)

// noughtSeeds are those of which the seed and 2 is 0 modulo P: under them each sum is 0.
func noughtSeeds() []uint64 {
	var list []uint64
	for k := uint64(1); k <= 8; k++ {
		list = append(list, k*api.P-2)
	}
	return list
}

// seeds are those at which a reduction may go wrong, and some that are the same in each run.
func seeds() []uint64 {
	list := []uint64{0, 1, 2, 3, 9, 1 << 32, api.P - 4, api.P - 3, api.P - 1, api.P, api.P + 1, 1 << 61, 1 << 62, 1 << 63,
		math.MaxUint64 - 3, math.MaxUint64 - 2, math.MaxUint64 - 1, math.MaxUint64}
	source := rand.New(rand.NewSource(2))
	for range 10 {
		list = append(list, source.Uint64())
	}
	return list
}

// keys are of all lengths round the ends of words, of noughts, of the highest bytes and of any.
func keys() []string {
	source := rand.New(rand.NewSource(37))
	list := []string{"", "a", "ab", "abc", "abcd", "abcde", "\x01\x02\x03\x04\x05\x06\x07\x08", "é", "\x00a", "a\x00"}
	for length := 1; length <= api.KeyBytes+4; length++ {
		some := make([]byte, length)
		source.Read(some)
		list = append(list, string(some), strings.Repeat("\x00", length), strings.Repeat("\xff", length))
	}
	return append(list, strings.Repeat("long", 500)+"er")
}

func wide(n uint64) *big.Int { return new(big.Int).SetUint64(n) }

// plainSum reckons a sum by the words of the chapter, with numbers of any size, and modulo P at the end of each step alone.
func plainSum(seed uint64, key string) uint64 {
	factor := new(big.Int).Add(wide(seed), big.NewInt(2))
	filled := []byte(key)
	for len(filled)%4 != 0 {
		filled = append(filled, 0)
	}
	sum := big.NewInt(int64(len(key)))
	for len(filled) > 0 {
		word := new(big.Int).SetBytes(filled[:4])
		filled = filled[4:]
		sum.Mul(sum, factor)
		sum.Add(sum, word.Add(word, big.NewInt(1)))
		sum.Mod(sum, prime)
	}
	sum.Mul(sum, factor)
	return sum.Exp(sum, big.NewInt(17), prime).Uint64()
}

func plainRow(seed uint64, i int) uint64 {
	if i < 0 {
		i = 0
	}
	root := new(big.Int).Add(wide(seed), big.NewInt(3))
	root.Mul(root, new(big.Int).Add(big.NewInt(int64(i)), big.NewInt(2)))
	root.Add(root, big.NewInt(5))
	return root.Mul(root, root).Mod(root, prime).Uint64()
}

// plainLevel goes bit by bit.
func plainLevel(sum uint64, most int) int {
	level := 0
	for level < most && (sum == 0 || sum>>level&1 == 0) {
		level++
	}
	return level
}

// P2.1

func TestSumOfExamples(t *testing.T) {
	for _, c := range []struct {
		seed uint64
		key  string
		want uint64
	}{
		{0, "", 0},
		{0, "\x00", 16926659444736},
		{7, "", 0},
		// Of the seed -1 the factor is 1: so many bytes, the word and 1, to the power of 17.
		{api.P - 1, "\x00\x00\x00\x00", 762939453125},
		{api.P - 1, "\x00\x00\x00\x01", 16926659444736},
		// The first byte is the highest: 1, 2^24 and 1.
		{api.P - 1, "\x01", 171819686396130378},
		{api.P - 1, "abcd", 2113081745717585829},
	} {
		if got := Sum(c.seed, c.key); got != c.want {
			t.Errorf("Sum of %d and %q: %d, want %d", c.seed, c.key, got, c.want)
		}
	}
}

func TestSum(t *testing.T) {
	for _, seed := range append(seeds(), noughtSeeds()...) {
		for _, key := range keys() {
			if got, want := Sum(seed, key), plainSum(seed, key); got != want {
				t.Fatalf("Sum of %d and %q: %d, want %d", seed, key, got, want)
			}
		}
	}
}

func TestSumOfNoughtSeeds(t *testing.T) {
	for _, seed := range noughtSeeds() {
		for _, key := range keys() {
			if got := Sum(seed, key); got != 0 {
				t.Fatalf("Sum of %d and %q: %d, want 0", seed, key, got)
			}
		}
	}
}

func TestRow(t *testing.T) {
	for _, c := range []struct {
		seed uint64
		i    int
		want uint64
	}{
		{0, 0, 121}, {0, 1, 196}, {1, 0, 169}, {1, 1, 289}, {1, 6, 1369},
		{api.P - 3, 0, 25}, {api.P - 3, 6, 25},
		{0, api.P - 2, 25}, {0, api.P - 1, 64}, {0, api.P, 121},
	} {
		if got := Row(c.seed, c.i); got != c.want {
			t.Errorf("Row of %d and %d: %d, want %d", c.seed, c.i, got, c.want)
		}
	}
	rows := []int{0, 1, 2, 3, 6, 7, 13, 14, 255, 1 << 40, api.P - 2, api.P, api.P + 1, math.MaxInt64 - 2, math.MaxInt64 - 1, math.MaxInt64}
	for _, seed := range append(seeds(), noughtSeeds()...) {
		for _, i := range rows {
			if got, want := Row(seed, i), plainRow(seed, i); got != want {
				t.Errorf("Row of %d and %d: %d, want %d", seed, i, got, want)
			}
		}
	}
}

func TestRowBelowNought(t *testing.T) {
	for _, seed := range seeds() {
		want := plainRow(seed, 0)
		for _, i := range []int{-1, -2, -3, -5, -api.P, math.MinInt64 + 1, math.MinInt64} {
			if got := Row(seed, i); got != want {
				t.Errorf("Row of %d and %d: %d, want %d", seed, i, got, want)
			}
		}
	}
}

func TestCell(t *testing.T) {
	for _, seed := range seeds() {
		for _, key := range keys() {
			sum := plainSum(seed, key)
			for _, n := range []int{1, 2, 3, 7, 8, 16, 255, api.MaxCells, 1 << 32, api.P - 1, api.P, math.MaxInt64} {
				if got, want := Cell(seed, key, n), int(sum%uint64(n)); got != want {
					t.Fatalf("Cell of %d and %q among %d: %d, want %d", seed, key, n, got, want)
				}
			}
		}
	}
}

func TestCellAmongNone(t *testing.T) {
	for _, seed := range seeds() {
		for _, key := range []string{"", "x", "abcde"} {
			for _, n := range []int{0, -1, -2, -16, math.MinInt64 + 1, math.MinInt64} {
				if got := Cell(seed, key, n); got != 0 {
					t.Errorf("Cell of %d and %q among %d: %d, want 0", seed, key, n, got)
				}
			}
		}
	}
}

func TestSign(t *testing.T) {
	seen := map[int]int{}
	for _, seed := range append(seeds(), noughtSeeds()...) {
		for _, key := range keys() {
			want := -1
			if plainSum(seed, key)&1 == 1 {
				want = 1
			}
			if got := Sign(seed, key); got != want {
				t.Fatalf("Sign of %d and %q: %d, want %d", seed, key, got, want)
			}
			seen[want]++
		}
	}
	if seen[1] == 0 || seen[-1] == 0 {
		t.Errorf("signs told: %v", seen)
	}
}

func TestLevel(t *testing.T) {
	seen := map[int]int{}
	for _, seed := range append(seeds(), noughtSeeds()...) {
		for _, key := range keys() {
			sum := plainSum(seed, key)
			for _, most := range []int{math.MinInt64, -1, 0, 1, 2, 3, api.MaxLevels - 1, 60, 61, 64, 65, 100} {
				got, want := Level(seed, key, most), plainLevel(sum, most)
				if got != want {
					t.Fatalf("Level of %d and %q, at most %d: %d, want %d", seed, key, most, got, want)
				}
				seen[got]++
			}
		}
	}
	for level := range 6 {
		if seen[level] == 0 {
			t.Errorf("no key had the level %d", level)
		}
	}
}

func TestLevelOfASumOfNought(t *testing.T) {
	for _, most := range []int{0, 1, 5, 61, 63, 64, 65, 1 << 40, math.MaxInt64} {
		if got := Level(0, "", most); got != most {
			t.Errorf("Level of a sum of 0, at most %d: %d", most, got)
		}
	}
	for _, most := range []int{-1, -64, math.MinInt64} {
		if got := Level(0, "", most); got != 0 {
			t.Errorf("Level of a sum of 0, at most %d: %d, want 0", most, got)
		}
	}
}

// P2.2

func TestCellsAreBelowTheirNumber(t *testing.T) {
	const cells = 16
	seen := [cells]int{}
	for i := range 1000 {
		cell := Cell(9, string([]byte{byte(i >> 8), byte(i)}), cells)
		if cell < 0 || cell >= cells {
			t.Fatalf("Cell among %d: %d", cells, cell)
		}
		seen[cell]++
	}
	for cell, count := range seen {
		if count == 0 {
			t.Errorf("no key had the cell %d", cell)
		}
	}
}

// words are those of a key, as the chapter has them.
func words(key string) string {
	return key + strings.Repeat("\x00", (4-len(key)%4)%4)
}

func TestByteNoughtBehind(t *testing.T) {
	same := 0
	for _, key := range keys() {
		longer := key + "\x00"
		if words(key) != words(longer) {
			continue
		}
		same++
		for _, seed := range seeds() {
			if sum := Sum(seed, key); sum == Sum(seed, longer) {
				t.Errorf("Sum of %d and %q: %d, with a byte 0 behind too", seed, key, sum)
			}
		}
		for _, seed := range noughtSeeds() {
			if a, b := Sum(seed, key), Sum(seed, longer); a != b {
				t.Errorf("Sum of %d and %q: %d, with a byte 0 behind %d", seed, key, a, b)
			}
		}
	}
	if same < 50 {
		t.Errorf("only %d keys whose words stay the same", same)
	}
}

func TestAnswersAreBelowThePrime(t *testing.T) {
	for _, seed := range append(seeds(), noughtSeeds()...) {
		for i, key := range keys() {
			if sum, row := Sum(seed, key), Row(seed, i); sum >= api.P || row >= api.P {
				t.Fatalf("Sum %d, Row %d", sum, row)
			}
		}
	}
}
