package bitmap

import (
	"math"
	"math/rand"
	"reflect"
	"slices"
	"strconv"
	"strings"
	"testing"

	"rillmeter/api"
	"rillmeter/hash"
)

const scale = 65536

var (
	rightRows = []int{1, 2, 3, 4, 8, 15, 16}
	wrongRows = []int{math.MinInt, math.MinInt + 1, -17, -16, -3, -2, -1, 0, 17, 18, 32, 256, 1<<32 + 1, math.MaxInt}
	rightBits = []int{1, 2, 3, 8, 64, 255, 256}
	wrongBits = []int{math.MinInt, math.MinInt32, -257, -256, -8, -1, 0, 257, 258, 512, 1<<32 + 8, math.MaxInt}
	// Some seeds differ by the prime alone: their things have the same places. The last one makes a Row 0 of 0.
	seeds = []uint64{0, 1, 2, 7, api.P - 3, api.P - 1, api.P, api.P + 1, 1 << 61, 1 << 63, math.MaxUint64 - 2, math.MaxUint64, 1152921504606846970}
	// shapes are rows and bits of the edges and of the middle.
	shapes = [][2]int{{1, 1}, {1, 256}, {16, 1}, {16, 256}, {3, 8}, {6, 32}, {3, 3}, {16, 2}, {15, 255}, {2, 7}}
)

// things are of no byte, of one and of many.
func things() []string {
	source := rand.New(rand.NewSource(30))
	list := []string{"", "a", "b", "\x00", "\xff", "\x00\x00", "ab", "abc", "abcd", "abcde", "é", strings.Repeat("long", 500) + "er"}
	for range 12 {
		some := make([]byte, api.KeyBytes)
		source.Read(some)
		list = append(list, string(some))
	}
	return list
}

// filled is a map, each bit of which is what of tells.
func filled(seed uint64, rows, bits int, of func(i, bit int) bool) Map {
	m := Map{Seed: seed}
	for i := 0; i < rows; i++ {
		row := make([]bool, bits)
		for bit := range row {
			row[bit] = of(i, bit)
		}
		m.Rows = append(m.Rows, row)
	}
	return m
}

// none is a map with no bit set, and all one with each.
func none(seed uint64, rows, bits int) Map {
	return filled(seed, rows, bits, func(int, int) bool { return false })
}

func all(seed uint64, rows, bits int) Map {
	return filled(seed, rows, bits, func(int, int) bool { return true })
}

// drawn is a map of any bits, about one in so many of which is set.
func drawn(source *rand.Rand, seed uint64, rows, bits, in int) Map {
	return filled(seed, rows, bits, func(int, int) bool { return source.Intn(in) == 0 })
}

// apart is a map of the same, in memory of its own.
func apart(m Map) Map {
	o := Map{Seed: m.Seed}
	for _, row := range m.Rows {
		o.Rows = append(o.Rows, slices.Clone(row))
	}
	return o
}

// same: a list that is nil and one that is empty are the same.
func same(a, b Map) bool {
	return a.Seed == b.Seed && slices.EqualFunc(a.Rows, b.Rows, slices.Equal[[]bool])
}

// plainPlace is the place by the words of the chapter.
func plainPlace(seed uint64, rows, bits int, thing string) (int, int) {
	return hash.Level(hash.Row(seed, 0), thing, rows-1), hash.Cell(hash.Row(seed, 1), thing, bits)
}

// plainEstimate is the estimate by the words of the chapter, of rows with so many bits each.
func plainEstimate(m Map) int {
	sum := 0
	for _, row := range m.Rows {
		b, z := len(row), 0
		for _, set := range row {
			if !set {
				z++
			}
		}
		for i := b; i > z; i-- {
			sum += (b*scale - b*scale%i) / i
		}
	}
	return sum
}

// rightMaps are of all edges: with no bit set, with each one, and with any.
func rightMaps() []Map {
	source := rand.New(rand.NewSource(31))
	var list []Map
	for _, seed := range seeds {
		for _, shape := range shapes {
			list = append(list, none(seed, shape[0], shape[1]), all(seed, shape[0], shape[1]))
			for _, in := range []int{2, 16} {
				list = append(list, drawn(source, seed, shape[0], shape[1], in))
			}
		}
	}
	return list
}

// wrongMaps are wrong in their number of rows, in a length, or in both.
func wrongMaps() []Map {
	list := []Map{{}, {Seed: 1}, {Seed: 1, Rows: [][]bool{}}, {Seed: 1, Rows: [][]bool{{}}}, {Seed: 1, Rows: [][]bool{nil, nil, nil}}}
	for _, seed := range []uint64{0, 1, api.P, math.MaxUint64} {
		for _, of := range []func(uint64, int, int) Map{none, all} {
			for _, rows := range []int{0, 17, 18, 32} {
				for _, bits := range []int{0, 1, 8, 256, 257} {
					list = append(list, of(seed, rows, bits))
				}
			}
			for _, rows := range rightRows {
				for _, bits := range []int{0, 257, 258, 512} {
					list = append(list, of(seed, rows, bits))
				}
			}
		}
	}
	return slices.Concat(list, withUnlikeRows())
}

// withUnlikeRows are maps one row of which is longer or shorter than the others.
func withUnlikeRows() []Map {
	var list []Map
	for _, of := range []func(uint64, int, int) Map{none, all} {
		for _, rows := range []int{2, 3, 5, 16} {
			for _, bits := range []int{1, 2, 8, 256} {
				for i := range rows {
					for _, other := range []int{0, 1, bits - 1, bits + 1, 256, 257} {
						if other == bits {
							continue
						}
						m := of(1, rows, bits)
						m.Rows[i] = of(1, 1, other).Rows[0]
						list = append(list, m)
					}
				}
			}
		}
	}
	return list
}

func mustNew(t *testing.T, seed uint64, rows, bits int) Map {
	t.Helper()
	m, err := New(seed, rows, bits)
	if err != api.OK {
		t.Fatalf("New(%d, %d, %d): error %d", seed, rows, bits, err)
	}
	return m
}

func mustPlace(t *testing.T, m Map, thing string, row, bit int) {
	t.Helper()
	if gotRow, gotBit := Place(m, thing); gotRow != row || gotBit != bit {
		t.Fatalf("Place(%v, %q) = %d, %d, want %d, %d", m, thing, gotRow, gotBit, row, bit)
	}
}

func mustEstimate(t *testing.T, m Map, want int) {
	t.Helper()
	if got := Estimate(m); got != want {
		t.Fatalf("Estimate(%v) = %d, want %d", m, got, want)
	}
}

func mustMerge(t *testing.T, a, b Map) Map {
	t.Helper()
	m, err := Merge(a, b)
	if err != api.OK {
		t.Fatalf("Merge(%v, %v): error %d", a, b, err)
	}
	return m
}

// mustNotMerge holds that nothing but the error is told, whichever of the two stands first, and that both stay as they were.
func mustNotMerge(t *testing.T, a, b Map) {
	t.Helper()
	keptA, keptB := apart(a), apart(b)
	for _, pair := range [][2]Map{{a, b}, {b, a}} {
		if m, err := Merge(pair[0], pair[1]); err != api.ErrArg || !same(m, Map{}) {
			t.Fatalf("Merge(%v, %v) = %v, %d, not the error alone", pair[0], pair[1], m, err)
		}
	}
	if !same(a, keptA) || !same(b, keptB) {
		t.Fatalf("%v, %v became %v, %v", keptA, keptB, a, b)
	}
}

func withAll(m Map, things []string) Map {
	for _, thing := range things {
		m = Add(m, thing)
	}
	return m
}

// P13.1: New.

func TestNew(t *testing.T) {
	for _, seed := range seeds {
		for _, rows := range rightRows {
			for _, bits := range rightBits {
				m := mustNew(t, seed, rows, bits)
				if !reflect.DeepEqual(m, none(seed, rows, bits)) {
					t.Fatalf("New(%d, %d, %d) = %v", seed, rows, bits, m)
				}
				if !Right(m) {
					t.Fatalf("New(%d, %d, %d) is not right", seed, rows, bits)
				}
				mustEstimate(t, m, 0)
			}
		}
	}
}

func TestNewOfWrongNumbers(t *testing.T) {
	refused := func(rows, bits int) {
		t.Helper()
		for _, seed := range seeds {
			if m, err := New(seed, rows, bits); err != api.ErrArg || !same(m, Map{}) {
				t.Fatalf("New(%d, %d, %d) = %v, %d, not the error alone", seed, rows, bits, m, err)
			}
		}
	}
	for _, rows := range wrongRows {
		for _, bits := range slices.Concat(rightBits, wrongBits) {
			refused(rows, bits)
		}
	}
	for _, rows := range rightRows {
		for _, bits := range wrongBits {
			refused(rows, bits)
		}
	}
}

func TestNewOfEachShape(t *testing.T) {
	for rows := -20; rows <= 40; rows++ {
		for bits := -10; bits <= 270; bits++ {
			want := api.ErrArg
			if rows >= 1 && rows <= 16 && bits >= 1 && bits <= 256 {
				want = api.OK
			}
			if _, err := New(1, rows, bits); err != want {
				t.Fatalf("New of %d rows of %d bits: error %d, want %d", rows, bits, err, want)
			}
		}
	}
}

// Neither two new maps nor two rows of one share any memory.
func TestNewMapsShareNothing(t *testing.T) {
	m, o := mustNew(t, 1, 3, 8), mustNew(t, 1, 3, 8)
	m.Rows[1] = append(append(m.Rows[1][:3], true), true, true, true, true, true, true, true)
	m.Rows[0][7] = true
	if !same(o, none(1, 3, 8)) || !same(mustNew(t, 1, 3, 8), o) {
		t.Errorf("a bit of one map is another's: %v", o)
	}
	if slices.Contains(m.Rows[2], true) || m.Rows[0][0] {
		t.Errorf("a bit of one row is another's: %v", m.Rows)
	}
}

// P13.1: Right.

func TestRight(t *testing.T) {
	for _, m := range rightMaps() {
		before := apart(m)
		if !Right(m) {
			t.Fatalf("Right(%v) = false", m)
		}
		if !same(m, before) {
			t.Fatalf("%v became %v", before, m)
		}
	}
	for _, m := range wrongMaps() {
		before := apart(m)
		if Right(m) {
			t.Fatalf("Right(%v) = true", m)
		}
		if !same(m, before) {
			t.Fatalf("%v became %v", before, m)
		}
	}
}

func TestRightOfEachShape(t *testing.T) {
	for rows := range 36 {
		for bits := range 520 {
			want := rows >= 1 && rows <= 16 && bits >= 1 && bits <= 256
			if got := Right(none(uint64(bits), rows, bits)); got != want {
				t.Fatalf("Right of %d rows of %d bits: %t", rows, bits, got)
			}
		}
	}
}

// The room behind a list does not make it longer.
func TestRightGoesByLength(t *testing.T) {
	rows := none(1, 32, 512).Rows
	cut := func(count, bits int) Map {
		m := Map{1, slices.Clone(rows)[:count]}
		for i := range m.Rows {
			m.Rows[i] = m.Rows[i][:bits]
		}
		return m
	}
	for _, m := range []Map{cut(1, 1), cut(16, 1), cut(1, 256), cut(16, 256)} {
		if !Right(m) {
			t.Errorf("%d rows of %d with room behind are not right", len(m.Rows), len(m.Rows[0]))
		}
	}
	for _, m := range []Map{cut(0, 1), cut(17, 1), cut(32, 8), cut(1, 0), cut(16, 257)} {
		if Right(m) {
			t.Errorf("%d rows with room behind are right", len(m.Rows))
		}
	}
}

// P13.1: maps that are not right.

func TestWrongMaps(t *testing.T) {
	right := []Map{none(1, 3, 8), all(1, 1, 1), all(0, 16, 256)}
	for _, m := range wrongMaps() {
		before := apart(m)
		mustEstimate(t, m, 0)
		for _, thing := range []string{"", "a", "\x00", "abcde"} {
			mustPlace(t, m, thing, 0, 0)
			if o := Add(m, thing); !same(o, before) {
				t.Fatalf("Add(%v, %q) = %v", before, thing, o)
			}
		}
		mustNotMerge(t, m, m)
		mustNotMerge(t, m, before)
		for _, o := range right {
			mustNotMerge(t, m, o)
		}
		if !same(m, before) {
			t.Fatalf("%v became %v", before, m)
		}
	}
}

// Of two that are alike but for what is wrong in one of them, each may be the wrong one.
func TestMergeOfOneThatIsWrong(t *testing.T) {
	for _, wrong := range withUnlikeRows() {
		for _, row := range wrong.Rows {
			if len(row) >= 1 && len(row) <= 256 {
				mustNotMerge(t, wrong, none(wrong.Seed, len(wrong.Rows), len(row)))
				mustNotMerge(t, wrong, all(wrong.Seed, len(wrong.Rows), len(row)))
			}
		}
	}
	for _, bits := range rightBits {
		mustNotMerge(t, all(1, 17, bits), all(1, 16, bits))
		mustNotMerge(t, none(1, 0, bits), none(1, 1, bits))
	}
	for _, rows := range rightRows {
		mustNotMerge(t, all(1, rows, 257), all(1, rows, 256))
		mustNotMerge(t, none(1, rows, 0), none(1, rows, 1))
	}
}

// P13.1: Place.

// somePlaces were reckoned apart, by the words of layers 2 and 13.
func somePlaces() []place {
	long := make([]byte, api.KeyBytes)
	for i := range long {
		long[i] = byte(i)
	}
	return []place{
		{1, 4, 8, "a", 0, 5},
		{1, 16, 256, "a", 0, 221},
		{1, 1, 8, "a", 0, 5},
		{1, 1, 1, "a", 0, 0},
		{0, 16, 256, "a", 0, 154},
		{1, 16, 8, "b", 3, 2},
		// A thing of no byte has the sum 0 and so the last row.
		{7, 16, 64, "", 15, 0},
		{7, 2, 64, "", 1, 0},
		{7, 1, 64, "", 0, 0},
		{7, 16, 64, "\x00", 1, 8},
		{7, 16, 64, "\x00\x00", 6, 26},
		{7, 16, 64, "abcde", 2, 17},
		{math.MaxUint64, 16, 256, string(long), 1, 211},
		{api.P - 3, 16, 16, "xyz", 0, 13},
		{5, 16, 1, "k", 1, 0},
		{3, 16, 255, "rill", 0, 105},
		{2, 16, 3, "rill", 0, 0},
		{api.P + 2, 16, 3, "rill", 0, 0},
		{1152921504606846970, 16, 256, "rill", 0, 2},
	}
}

// place is a thing's, in a map of a seed, so many rows and bits.
type place struct {
	seed       uint64
	rows, bits int
	thing      string
	row, bit   int
}

// levels are things by their level with the Seed 1, from 0 to 16, and their bit of 256, reckoned apart too.
func levels() []place {
	return []place{
		{1, 16, 256, "2", 0, 199},
		{1, 16, 256, "0", 1, 9},
		{1, 16, 256, "7", 2, 81},
		{1, 16, 256, "78", 3, 221},
		{1, 16, 256, "1", 4, 239},
		{1, 16, 256, "34", 5, 26},
		{1, 16, 256, "316", 6, 178},
		{1, 16, 256, "1260", 7, 0},
		{1, 16, 256, "880", 8, 5},
		{1, 16, 256, "541", 9, 108},
		{1, 16, 256, "3948", 10, 124},
		{1, 16, 256, "1984", 11, 101},
		{1, 16, 256, "2361", 12, 36},
		{1, 16, 256, "6299", 13, 171},
		{1, 16, 256, "349", 14, 248},
		{1, 16, 256, "22512", 15, 200},
		{1, 16, 256, "70029", 16, 140},
	}
}

func TestPlaceOfSomeThings(t *testing.T) {
	for _, p := range somePlaces() {
		mustPlace(t, none(p.seed, p.rows, p.bits), p.thing, p.row, p.bit)
		mustPlace(t, all(p.seed, p.rows, p.bits), p.thing, p.row, p.bit)
	}
}

// A level beyond the last row is the last row's.
func TestPlaceOfEachLevel(t *testing.T) {
	for _, p := range levels() {
		for rows := 1; rows <= 16; rows++ {
			want := p.row
			if want >= rows {
				want = rows - 1
			}
			m := none(p.seed, rows, p.bits)
			mustPlace(t, m, p.thing, want, p.bit)
			if !Add(m, p.thing).Rows[want][p.bit] {
				t.Fatalf("Add of %q to %d rows does not set the bit %d of the row %d", p.thing, rows, p.bit, want)
			}
		}
	}
}

func TestPlace(t *testing.T) {
	for _, m := range rightMaps() {
		before := apart(m)
		for _, thing := range things() {
			row, bit := plainPlace(m.Seed, len(m.Rows), len(m.Rows[0]), thing)
			mustPlace(t, m, thing, row, bit)
		}
		if !same(m, before) {
			t.Fatalf("%v became %v", before, m)
		}
	}
}

func TestPlaceInEachShape(t *testing.T) {
	for rows := 1; rows <= 16; rows++ {
		for bits := 1; bits <= 256; bits++ {
			m := mustNew(t, 9, rows, bits)
			for _, thing := range []string{"", "a", "abcde"} {
				row, bit := plainPlace(9, rows, bits, thing)
				mustPlace(t, m, thing, row, bit)
			}
		}
	}
}

// P13.1: Add.

func TestAddOfSomeThings(t *testing.T) {
	for _, p := range somePlaces() {
		want := none(p.seed, p.rows, p.bits)
		want.Rows[p.row][p.bit] = true
		if got := Add(mustNew(t, p.seed, p.rows, p.bits), p.thing); !same(got, want) {
			t.Errorf("Add of %q with %d, %d, %d: %v, want %v", p.thing, p.seed, p.rows, p.bits, got, want)
		}
	}
}

func TestAdd(t *testing.T) {
	was := map[bool]int{}
	for _, m := range rightMaps() {
		before := apart(m)
		for _, thing := range things() {
			row, bit := plainPlace(m.Seed, len(m.Rows), len(m.Rows[0]), thing)
			want := apart(before)
			want.Rows[row][bit] = true
			was[before.Rows[row][bit]]++
			got := Add(m, thing)
			if !same(got, want) {
				t.Fatalf("Add(%v, %q) = %v, want %v", before, thing, got, want)
			}
			if !Right(got) {
				t.Fatalf("Add(%v, %q) = %v, which is not right", before, thing, got)
			}
			if !same(m, before) {
				t.Fatalf("Add of %q: %v became %v", thing, before, m)
			}
		}
	}
	if was[true] == 0 || was[false] == 0 {
		t.Errorf("bits that were set ahead: %v", was)
	}
}

// Neither the room behind the lists nor what another answer holds is written into.
func TestAddKeepsToItsOwnMemory(t *testing.T) {
	room := none(1, 16, 256).Rows
	m := Map{1, make([][]bool, 3, 16)}
	for i := range m.Rows {
		m.Rows[i] = room[i][:16]
	}
	behind := m.Rows[:16]
	grown := Add(m, "a")
	kept := apart(grown)
	for _, thing := range things() {
		Add(m, thing)
		Add(grown, thing)
		if !same(grown, kept) {
			t.Fatalf("Add of %q: %v became %v", thing, kept, grown)
		}
	}
	for i := range grown.Rows {
		for bit := range grown.Rows[i] {
			grown.Rows[i][bit] = true
		}
		grown.Rows[i] = nil
	}
	for i, row := range room {
		if slices.Contains(row, true) {
			t.Errorf("the row %d that was handed in became %v", i, row)
		}
	}
	for i, row := range behind {
		if i < 3 && (len(row) != 16 || &row[0] != &room[i][0]) || i >= 3 && row != nil {
			t.Errorf("the list of rows that was handed in has another row %d", i)
		}
	}
}

// Rows that are handed in as one list more than once are as many rows for all that.
func TestRowsOfOneMemory(t *testing.T) {
	row := make([]bool, 8)
	m := Map{1, [][]bool{row, row, row, row}}
	want := none(1, 4, 8)
	want.Rows[0][5] = true
	added := Add(m, "a")
	for _, got := range []Map{added, mustMerge(t, m, added), mustMerge(t, added, m)} {
		if !same(got, want) {
			t.Errorf("Add or Merge: %v, want %v", got, want)
		}
		got.Rows[0][0] = true
		if got.Rows[1][0] || got.Rows[2][0] || got.Rows[3][0] || row[0] {
			t.Error("two rows of an answer are one list")
		}
		got.Rows[0][0] = false
	}
	if slices.Contains(row, true) {
		t.Errorf("what was handed in became %v", row)
	}
	mustEstimate(t, Map{1, [][]bool{{true, false}}}, 65536)
	row[3] = true
	mustEstimate(t, m, 4*65536)
}

// P13.1: Estimate.

// The numbers were reckoned apart; by where the set bits stand nothing changes.
func TestEstimateOfOneRow(t *testing.T) {
	for _, c := range []struct{ bits, set, want int }{
		{1, 0, 0}, {1, 1, 65536},
		{2, 0, 0}, {2, 1, 65536}, {2, 2, 196608},
		{3, 0, 0}, {3, 1, 65536}, {3, 2, 163840}, {3, 3, 360448},
		// What is left over is dropped each time: of 4 bits, at 3.
		{4, 1, 65536}, {4, 2, 152917}, {4, 3, 283989}, {4, 4, 546133},
		{5, 2, 147456}, {5, 4, 420522}, {5, 5, 748202},
		// At once it would be 1189478.
		{7, 1, 65536}, {7, 2, 141994}, {7, 3, 233744}, {7, 6, 730725}, {7, 7, 1189477},
		{8, 2, 140434}, {8, 4, 332672}, {8, 7, 900650}, {8, 8, 1424938},
		{64, 1, 65536}, {64, 2, 132112}, {64, 32, 2874746}, {64, 63, 15702993}, {64, 64, 19897297},
		{255, 2, 131330}, {255, 127, 11485737}, {255, 254, 85571020}, {255, 255, 102282700},
		{256, 0, 0}, {256, 1, 65536}, {256, 2, 131329}, {256, 128, 11596322}, {256, 255, 85972143}, {256, 256, 102749359},
	} {
		for _, shift := range []int{0, 1, c.bits / 2, c.bits - 1} {
			of := func(_, bit int) bool { return (bit+shift)%c.bits < c.set }
			mustEstimate(t, filled(1, 1, c.bits, of), c.want)
			// The other rows have their own part, and rows with no bit set have none.
			for _, rows := range []int{2, 3, 15, 16} {
				mustEstimate(t, filled(1, rows, c.bits, of), rows*c.want)
				for i := range rows {
					mustEstimate(t, filled(1, rows, c.bits, func(j, bit int) bool { return i == j && of(j, bit) }), c.want)
				}
			}
		}
	}
}

// The first bit and the last one count as the others do.
func TestEstimateOfOneBitAnywhere(t *testing.T) {
	for _, bits := range rightBits {
		full := plainEstimate(all(1, 1, bits))
		for at := range bits {
			one, other := none(3, 1, bits), all(3, 1, bits)
			one.Rows[0][at], other.Rows[0][at] = true, false
			mustEstimate(t, one, scale)
			mustEstimate(t, other, full-bits*scale)
		}
	}
}

func TestEstimate(t *testing.T) {
	for _, m := range rightMaps() {
		before := apart(m)
		mustEstimate(t, m, plainEstimate(before))
		if !same(m, before) {
			t.Fatalf("%v became %v", before, m)
		}
	}
	for bits := 1; bits <= 256; bits++ {
		for set := 0; set <= bits; set += 1 + bits/16 {
			m := filled(4, 2, bits, func(i, bit int) bool { return bit < set+i })
			mustEstimate(t, m, plainEstimate(m))
		}
	}
}

// Neither the Seed nor the order of the rows counts.
func TestEstimateGoesByBitsAlone(t *testing.T) {
	source := rand.New(rand.NewSource(32))
	for _, shape := range shapes {
		m := drawn(source, 1, shape[0], shape[1], 3)
		want := Estimate(m)
		for _, seed := range seeds {
			m.Seed = seed
			mustEstimate(t, m, want)
		}
		slices.Reverse(m.Rows)
		mustEstimate(t, m, want)
	}
}

// P13.1: Merge.

func TestMergeOfMapsThatDiffer(t *testing.T) {
	for _, of := range []func(uint64, int, int) Map{none, all} {
		a := of(1, 3, 8)
		for _, b := range []Map{
			of(0, 3, 8), of(2, 3, 8), of(1+api.P, 3, 8), of(1+1<<32, 3, 8), of(1|1<<63, 3, 8), of(math.MaxUint64, 3, 8),
			of(1, 1, 8), of(1, 2, 8), of(1, 4, 8), of(1, 16, 8),
			of(1, 3, 1), of(1, 3, 7), of(1, 3, 9), of(1, 3, 256),
			of(2, 2, 8), of(2, 3, 9), of(1, 2, 9), of(1, 8, 3), of(0, 16, 256),
		} {
			mustNotMerge(t, a, b)
		}
	}
}

func TestMerge(t *testing.T) {
	source := rand.New(rand.NewSource(33))
	for _, seed := range seeds {
		for _, shape := range shapes {
			for _, in := range []int{2, 3, 20} {
				a, b := drawn(source, seed, shape[0], shape[1], in), drawn(source, seed, shape[0], shape[1], in)
				keptA, keptB := apart(a), apart(b)
				want := filled(seed, shape[0], shape[1], func(i, bit int) bool { return keptA.Rows[i][bit] || keptB.Rows[i][bit] })
				m, turned := mustMerge(t, a, b), mustMerge(t, b, a)
				if !same(m, want) || !same(turned, want) {
					t.Fatalf("Merge(%v, %v) = %v, turned about %v, want %v", a, b, m, turned, want)
				}
				if !Right(m) {
					t.Fatalf("Merge(%v, %v) = %v, which is not right", a, b, m)
				}
				if !same(a, keptA) || !same(b, keptB) {
					t.Fatalf("%v, %v became %v, %v", keptA, keptB, a, b)
				}
			}
		}
	}
}

func TestMergeWithItselfANewOneAndAFullOne(t *testing.T) {
	for _, m := range rightMaps() {
		before, rows, bits := apart(m), len(m.Rows), len(m.Rows[0])
		empty, full := mustNew(t, m.Seed, rows, bits), all(m.Seed, rows, bits)
		for _, o := range []Map{mustMerge(t, m, m), mustMerge(t, m, before), mustMerge(t, m, empty), mustMerge(t, empty, m)} {
			if !same(o, before) {
				t.Fatalf("%v with itself or a new one is %v", before, o)
			}
		}
		for _, o := range []Map{mustMerge(t, m, full), mustMerge(t, full, m)} {
			if !same(o, full) {
				t.Fatalf("%v with a full one is %v", before, o)
			}
		}
		if !same(m, before) || !same(empty, none(m.Seed, rows, bits)) || !same(full, all(m.Seed, rows, bits)) {
			t.Fatalf("%v, a new one and a full one became %v, %v and %v", before, m, empty, full)
		}
	}
}

func TestMergeKeepsToItsOwnMemory(t *testing.T) {
	a, b := none(1, 3, 8), none(1, 3, 8)
	for i := range 3 {
		a.Rows[i], b.Rows[i] = a.Rows[i][:4], b.Rows[i][:4]
		a.Rows[i][i], b.Rows[i][3] = true, true
	}
	firstA, firstB := &a.Rows[0][0], &b.Rows[0][0]
	keptA, keptB, empty := apart(a), apart(b), none(1, 3, 4)
	for _, m := range []Map{mustMerge(t, a, b), mustMerge(t, b, a), mustMerge(t, a, a), mustMerge(t, b, b), mustMerge(t, a, empty), mustMerge(t, empty, b)} {
		kept := apart(m)
		mustMerge(t, m, all(1, 3, 4))
		mustMerge(t, all(1, 3, 4), m)
		if !same(m, kept) {
			t.Errorf("%v became %v", kept, m)
		}
		for i := range m.Rows {
			for bit := range m.Rows[i] {
				m.Rows[i][bit] = !m.Rows[i][bit]
			}
			m.Rows[i] = nil
		}
		if !same(a, keptA) || !same(b, keptB) || !same(empty, none(1, 3, 4)) || &a.Rows[0][0] != firstA || &b.Rows[0][0] != firstB {
			t.Fatalf("%v, %v became %v, %v", keptA, keptB, a, b)
		}
	}
	for i := range 3 {
		if slices.Contains(a.Rows[i][:8][4:], true) || slices.Contains(b.Rows[i][:8][4:], true) {
			t.Error("the room behind a row was written into")
		}
	}
}

// The chapter's examples.

func TestExamples(t *testing.T) {
	mustEstimate(t, Map{Rows: [][]bool{{false, false}}}, 0)
	mustEstimate(t, Map{Rows: [][]bool{{true, false}}}, 65536)
	mustEstimate(t, Map{Rows: [][]bool{{false, true}}}, 65536)
	mustEstimate(t, Map{Rows: [][]bool{{true, true}}}, 196608)
	m := mustNew(t, 1, 1, 2)
	mustEstimate(t, m, 0)
	// "" has the bit 0 of the one row, and "a" the bit 1.
	m = Add(m, "")
	mustEstimate(t, m, 65536)
	mustEstimate(t, Add(m, "a"), 196608)
}

// P13.2.

func TestAThingThatComesAgainTurnsNothing(t *testing.T) {
	for _, m := range rightMaps() {
		list := things()
		for _, thing := range []string{"", "a", "abcde"} {
			once := Add(m, thing)
			twice := Add(once, thing)
			if !same(twice, once) || Estimate(twice) != Estimate(once) {
				t.Fatalf("Add of %q twice to %v is not as once", thing, m)
			}
		}
		// Whatever came between.
		some := withAll(m, list)
		for _, thing := range list {
			if got := Add(some, thing); !same(got, some) {
				t.Fatalf("Add of %q once more: %v, not %v", thing, got, some)
			}
		}
	}
}

func TestTheOrderDoesNotMatter(t *testing.T) {
	source := rand.New(rand.NewSource(34))
	for _, seed := range seeds {
		for _, shape := range shapes {
			list, empty := things(), mustNew(t, seed, shape[0], shape[1])
			want := withAll(empty, list)
			for range 3 {
				source.Shuffle(len(list), func(i, j int) { list[i], list[j] = list[j], list[i] })
				if got := withAll(empty, list); !same(got, want) {
					t.Fatalf("in another order: %v, not %v", got, want)
				}
				if got := withAll(withAll(empty, list), list[:5]); !same(got, want) {
					t.Fatalf("some of them once more: %v, not %v", got, want)
				}
			}
		}
	}
}

// Each bit that is turned makes the estimate greater, by one thing at least.
func TestTheEstimateNeverFalls(t *testing.T) {
	for _, seed := range seeds {
		for _, shape := range shapes {
			m := mustNew(t, seed, shape[0], shape[1])
			for i := range 300 {
				next := Add(m, strconv.Itoa(i))
				was, is := Estimate(m), Estimate(next)
				if is < was || same(m, next) != (is == was) || is > was && is < was+scale {
					t.Fatalf("Add(%v, %d): from %d to %d", m, i, was, is)
				}
				m = next
			}
		}
	}
}

func TestTheEstimateOfTwoMergedIsAtLeastEachOnes(t *testing.T) {
	source := rand.New(rand.NewSource(35))
	for _, seed := range seeds {
		for _, shape := range shapes {
			for _, in := range []int{1, 2, 3, 20} {
				a, b := drawn(source, seed, shape[0], shape[1], 3), drawn(source, seed, shape[0], shape[1], in)
				n := Estimate(mustMerge(t, a, b))
				if n < Estimate(a) || n < Estimate(b) || n > Estimate(all(seed, shape[0], shape[1])) {
					t.Fatalf("%v and %v merged: %d", a, b, n)
				}
			}
		}
	}
}

func TestMergedIsAllAdded(t *testing.T) {
	for _, seed := range seeds {
		for _, shape := range shapes {
			list, empty := things(), mustNew(t, seed, shape[0], shape[1])
			want := withAll(empty, list)
			for _, cut := range []int{0, 1, 7, len(list) / 2, len(list) - 1, len(list)} {
				if m := mustMerge(t, withAll(empty, list[:cut]), withAll(empty, list[cut:])); !same(m, want) {
					t.Fatalf("merged at %d: %v, not %v", cut, m, want)
				}
			}
		}
	}
}

// About as many as came are told, though more of them came than a row has bits.
func TestTheEstimateIsAboutRight(t *testing.T) {
	for _, count := range []int{40, 300, 1000} {
		m := mustNew(t, 3, 12, 128)
		for i := range count {
			m = Add(m, strconv.Itoa(i))
		}
		if n := Estimate(m) / scale; n < count*3/4 || n > count*5/4 {
			t.Errorf("Estimate of %d: %d", count, n)
		}
	}
}
