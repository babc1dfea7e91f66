package least

import (
	"math"
	"math/rand"
	"reflect"
	"slices"
	"strings"
	"testing"

	"rillmeter/api"
	"rillmeter/hash"
)

const maxCount = 1 << 40

var (
	rightRows = []int{1, 2, 3, 4, 5, 6, 7}
	wrongRows = []int{math.MinInt, 1 - 1<<32, -8, -7, -2, -1, 0, 8, 9, 14, 256, 1<<32 + 1, math.MaxInt}
	rightCols = []int{1, 2, 3, 8, 64, 255, 256}
	wrongCols = []int{math.MinInt, math.MinInt32, -257, -256, -8, -1, 0, 257, 258, 512, 1<<32 + 8, math.MaxInt}
	rightMost = []int{1, 2, 254, 255, 256, 1 << 20, 1 << 32, maxCount - 1, maxCount}
	wrongMost = []int{math.MinInt, -maxCount, -255, -1, 0, maxCount + 1, maxCount * 2, math.MaxInt}
	wrongN    = []int{math.MinInt, math.MinInt + 1, -maxCount - 1, -maxCount, -2, -1, maxCount + 1, maxCount + 2, 2 * maxCount, math.MaxInt - 1, math.MaxInt}
	// Some seeds differ by the prime alone: their keys have the same cells.
	seeds = []uint64{0, 1, 2, 7, api.P - 3, api.P - 1, api.P, api.P + 1, 1 << 61, 1 << 63, math.MaxUint64 - 2, math.MaxUint64}
	// shapes are rows and cols of the edges and of the middle.
	shapes = [][2]int{{1, 1}, {1, 256}, {7, 1}, {7, 256}, {2, 8}, {3, 16}, {4, 3}, {7, 2}, {5, 255}}
)

// keys are of no byte, of one and of many.
func keys() []string {
	source := rand.New(rand.NewSource(10))
	list := []string{"", "a", "b", "\x00", "\xff", "\x00\x00", "ab", "abc", "abcd", "abcde", "é", strings.Repeat("long", 500) + "er"}
	for range 12 {
		some := make([]byte, api.KeyBytes)
		source.Read(some)
		list = append(list, string(some))
	}
	return list
}

// filled is a sketch, each number of which is what of tells.
func filled(seed uint64, rows, cols, most int, of func(i, at int) int) Sketch {
	s := Sketch{Seed: seed, Most: most}
	for i := 0; i < rows; i++ {
		row := make([]int, cols)
		for at := range row {
			row[at] = of(i, at)
		}
		s.Rows = append(s.Rows, row)
	}
	return s
}

func noughts(seed uint64, rows, cols, most int) Sketch {
	return filled(seed, rows, cols, most, func(int, int) int { return 0 })
}

func full(seed uint64, rows, cols, most int) Sketch {
	return filled(seed, rows, cols, most, func(int, int) int { return most })
}

// drawn is a sketch of any numbers, 0 and Most among them.
func drawn(source *rand.Rand, seed uint64, rows, cols, most int) Sketch {
	return filled(seed, rows, cols, most, func(int, int) int {
		switch source.Intn(8) {
		case 0:
			return 0
		case 1:
			return most
		case 2:
			return most - 1
		}
		return source.Intn(most + 1)
	})
}

// apart is a sketch of the same, in memory of its own.
func apart(s Sketch) Sketch {
	o := Sketch{Seed: s.Seed, Most: s.Most}
	for _, row := range s.Rows {
		o.Rows = append(o.Rows, slices.Clone(row))
	}
	return o
}

// same: a list that is nil and one that is empty are the same.
func same(a, b Sketch) bool {
	return a.Seed == b.Seed && a.Most == b.Most && slices.EqualFunc(a.Rows, b.Rows, slices.Equal[[]int])
}

// plainCells are the cells by the words of the chapter.
func plainCells(seed uint64, rows, cols int, key string) []int {
	var cells []int
	for i := 0; i < rows; i++ {
		cells = append(cells, hash.Cell(hash.Row(seed, i), key, cols))
	}
	return cells
}

// capped is a sum, most at the most.
func capped(a, b, most int) int {
	if sum := a + b; sum < most {
		return sum
	}
	return most
}

// rightSketches are of all edges: with noughts, with Most in each cell, and with any numbers.
func rightSketches() []Sketch {
	source := rand.New(rand.NewSource(11))
	var list []Sketch
	for _, seed := range seeds {
		for _, shape := range shapes {
			for _, most := range rightMost {
				list = append(list, noughts(seed, shape[0], shape[1], most), full(seed, shape[0], shape[1], most), drawn(source, seed, shape[0], shape[1], most))
			}
		}
	}
	return list
}

// wrongSketches are wrong in their number of rows, in a length, in a number, in Most, or in more of these.
func wrongSketches() []Sketch {
	list := []Sketch{{}, {Seed: 1}, {Most: 1}, {Most: 255, Rows: [][]int{}}, {Most: 255, Rows: [][]int{{}}}, {Most: 255, Rows: [][]int{nil, nil}}}
	for _, seed := range []uint64{0, 1, api.P, math.MaxUint64} {
		for _, rows := range []int{0, 8, 9, 14} {
			for _, cols := range []int{0, 1, 8, 256, 257} {
				list = append(list, noughts(seed, rows, cols, 255), full(seed, rows, cols, 255))
			}
		}
		for _, rows := range rightRows {
			for _, cols := range []int{0, 257, 258, 512} {
				list = append(list, noughts(seed, rows, cols, 255), full(seed, rows, cols, 1))
			}
		}
		for _, shape := range shapes {
			for _, most := range wrongMost {
				list = append(list, noughts(seed, shape[0], shape[1], most), full(seed, shape[0], shape[1], most))
			}
		}
	}
	return slices.Concat(list, unlikeRows(), wrongNumbers())
}

// unlikeRows are sketches one row of which is longer or shorter than the others.
func unlikeRows() []Sketch {
	var list []Sketch
	for rows := 2; rows <= 7; rows++ {
		for _, cols := range []int{1, 2, 8, 256} {
			for i := range rows {
				for _, other := range []int{0, 1, cols - 1, cols + 1, 256, 257} {
					if other == cols {
						continue
					}
					s := noughts(1, rows, cols, 255)
					s.Rows[i] = make([]int, other)
					list = append(list, s)
				}
			}
		}
	}
	return list
}

// wrongNumbers are sketches one number of which is below 0 or beyond Most.
func wrongNumbers() []Sketch {
	var list []Sketch
	for _, most := range []int{1, 255, maxCount} {
		for _, number := range []int{math.MinInt, -maxCount, -1, most + 1, most * 2, math.MaxInt} {
			for rows := 1; rows <= 7; rows++ {
				for i := range rows {
					for _, at := range []int{0, 3, 7} {
						low, high := noughts(1, rows, 8, most), full(1, rows, 8, most)
						low.Rows[i][at], high.Rows[i][at] = number, number
						list = append(list, low, high)
					}
				}
			}
		}
	}
	return list
}

func mustNew(t *testing.T, seed uint64, rows, cols, most int) Sketch {
	t.Helper()
	s, err := New(seed, rows, cols, most)
	if err != api.OK {
		t.Fatalf("New(%d, %d, %d, %d): error %d", seed, rows, cols, most, err)
	}
	return s
}

func mustAdd(t *testing.T, s Sketch, key string, n int) Sketch {
	t.Helper()
	o, err := Add(s, key, n)
	if err != api.OK {
		t.Fatalf("Add(%v, %q, %d): error %d", s, key, n, err)
	}
	return o
}

// mustNotAdd holds that nothing but the error is told.
func mustNotAdd(t *testing.T, s Sketch, key string, n int) {
	t.Helper()
	if o, err := Add(s, key, n); err != api.ErrArg || !same(o, Sketch{}) {
		t.Fatalf("Add(%v, %q, %d) = %v, %d, not the error alone", s, key, n, o, err)
	}
}

func mustGet(t *testing.T, s Sketch, key string, n int, ok bool) {
	t.Helper()
	if gotN, gotOK := Get(s, key); gotN != n || gotOK != ok {
		t.Fatalf("Get(%v, %q) = %d, %t, want %d, %t", s, key, gotN, gotOK, n, ok)
	}
}

func mustMerge(t *testing.T, a, b Sketch) Sketch {
	t.Helper()
	m, err := Merge(a, b)
	if err != api.OK {
		t.Fatalf("Merge(%v, %v): error %d", a, b, err)
	}
	return m
}

// mustNotMerge holds that nothing but the error is told, whichever of the two stands first.
func mustNotMerge(t *testing.T, a, b Sketch) {
	t.Helper()
	for _, pair := range [][2]Sketch{{a, b}, {b, a}} {
		if m, err := Merge(pair[0], pair[1]); err != api.ErrArg || !same(m, Sketch{}) {
			t.Fatalf("Merge(%v, %v) = %v, %d, not the error alone", pair[0], pair[1], m, err)
		}
	}
}

// P11.1: New.

func TestNew(t *testing.T) {
	for _, seed := range seeds {
		for _, rows := range rightRows {
			for _, cols := range rightCols {
				for _, most := range rightMost {
					s := mustNew(t, seed, rows, cols, most)
					if !reflect.DeepEqual(s, noughts(seed, rows, cols, most)) {
						t.Fatalf("New(%d, %d, %d, %d) = %v", seed, rows, cols, most, s)
					}
					if !Right(s) {
						t.Fatalf("New(%d, %d, %d, %d) is not right", seed, rows, cols, most)
					}
				}
			}
		}
	}
}

func TestNewOfWrongNumbers(t *testing.T) {
	refused := func(rows, cols, most int) {
		t.Helper()
		for _, seed := range seeds {
			if s, err := New(seed, rows, cols, most); err != api.ErrArg || !same(s, Sketch{}) {
				t.Fatalf("New(%d, %d, %d, %d) = %v, %d, not the error alone", seed, rows, cols, most, s, err)
			}
		}
	}
	for _, rows := range wrongRows {
		for _, cols := range slices.Concat(rightCols, wrongCols) {
			for _, most := range slices.Concat(rightMost, wrongMost) {
				refused(rows, cols, most)
			}
		}
	}
	for _, rows := range rightRows {
		for _, cols := range wrongCols {
			for _, most := range slices.Concat(rightMost, wrongMost) {
				refused(rows, cols, most)
			}
		}
		for _, cols := range rightCols {
			for _, most := range wrongMost {
				refused(rows, cols, most)
			}
		}
	}
}

// Neither two new sketches nor two rows of one share any memory.
func TestNewSketchesShareNothing(t *testing.T) {
	s, o := mustNew(t, 1, 3, 8, 255), mustNew(t, 1, 3, 8, 255)
	s.Rows[1] = append(append(s.Rows[1][:3], 9), 8, 7, 6, 5, 4, 3, 2)
	s.Rows[0][7] = 1
	if !same(o, noughts(1, 3, 8, 255)) || !same(mustNew(t, 1, 3, 8, 255), o) {
		t.Errorf("a number of one sketch is another's: %v", o)
	}
	if !slices.Equal(s.Rows[2], make([]int, 8)) || s.Rows[0][0] != 0 {
		t.Errorf("a number of one row is another's: %v", s.Rows)
	}
}

// P11.1: Right.

func TestRight(t *testing.T) {
	for _, s := range rightSketches() {
		before := apart(s)
		if !Right(s) {
			t.Fatalf("Right(%v) = false", s)
		}
		if !same(s, before) {
			t.Fatalf("%v became %v", before, s)
		}
	}
	for _, s := range wrongSketches() {
		before := apart(s)
		if Right(s) {
			t.Fatalf("Right(%v) = true", s)
		}
		if !same(s, before) {
			t.Fatalf("%v became %v", before, s)
		}
	}
}

func TestRightOfEachShape(t *testing.T) {
	for rows := range 17 {
		for cols := range 520 {
			want := rows >= 1 && rows <= 7 && cols >= 1 && cols <= 256
			if got := Right(noughts(uint64(cols), rows, cols, 1)); got != want {
				t.Fatalf("Right of %d rows of %d numbers: %t", rows, cols, got)
			}
		}
	}
}

// Each number counts, wherever it stands.
func TestRightOfEachNumber(t *testing.T) {
	for _, most := range rightMost {
		for _, c := range []struct {
			number int
			want   bool
		}{{-1, false}, {0, true}, {1, true}, {most - 1, true}, {most, true}, {most + 1, false}} {
			for i := range 7 {
				for at := range 16 {
					s := noughts(3, 7, 16, most)
					s.Rows[i][at] = c.number
					if got := Right(s); got != c.want {
						t.Fatalf("Right with %d of %d in the row %d at %d: %t", c.number, most, i, at, got)
					}
				}
			}
		}
	}
}

// Most is held against its own bounds, even where each number would fit it.
func TestRightOfEachMost(t *testing.T) {
	for _, shape := range shapes {
		for _, most := range rightMost {
			if !Right(noughts(1, shape[0], shape[1], most)) {
				t.Fatalf("not right with Most %d", most)
			}
		}
		for _, most := range wrongMost {
			if Right(noughts(1, shape[0], shape[1], most)) {
				t.Fatalf("right with Most %d", most)
			}
		}
	}
}

// The room behind a list does not make it longer.
func TestRightGoesByLength(t *testing.T) {
	rows := noughts(1, 14, 512, 9).Rows
	cut := func(count, cols int) Sketch {
		s := Sketch{1, 9, slices.Clone(rows)[:count]}
		for i := range s.Rows {
			s.Rows[i] = s.Rows[i][:cols]
		}
		return s
	}
	for _, s := range []Sketch{cut(1, 1), cut(7, 1), cut(1, 256), cut(7, 256)} {
		if !Right(s) {
			t.Errorf("%d rows of %d with room behind are not right", len(s.Rows), len(s.Rows[0]))
		}
	}
	for _, s := range []Sketch{cut(0, 1), cut(8, 1), cut(1, 0), cut(7, 257)} {
		if Right(s) {
			t.Errorf("%d rows with room behind are right", len(s.Rows))
		}
	}
	s := cut(3, 8)
	s.Rows[0][:9][8] = 10
	if !Right(s) {
		t.Error("a number behind a row makes it wrong")
	}
}

// P11.1: sketches that are not right.

func TestWrongSketches(t *testing.T) {
	right := []Sketch{noughts(1, 2, 8, 255), full(1, 1, 1, 1), full(0, 7, 256, maxCount)}
	for _, s := range wrongSketches() {
		before := apart(s)
		for _, key := range []string{"", "a", "\x00", "abcde"} {
			mustGet(t, s, key, 0, false)
			for _, n := range []int{-1, 0, 1, maxCount, maxCount + 1} {
				mustNotAdd(t, s, key, n)
			}
		}
		mustNotMerge(t, s, s)
		mustNotMerge(t, s, before)
		for _, o := range right {
			mustNotMerge(t, s, o)
		}
		if !same(s, before) {
			t.Fatalf("%v became %v", before, s)
		}
	}
}

// Of two that are alike but for what is wrong in one of them, each may be the wrong one.
func TestMergeOfOneThatIsWrong(t *testing.T) {
	for _, wrong := range slices.Concat(unlikeRows(), wrongNumbers()) {
		for _, row := range wrong.Rows {
			if len(row) >= 1 && len(row) <= 256 {
				mustNotMerge(t, wrong, noughts(wrong.Seed, len(wrong.Rows), len(row), wrong.Most))
				mustNotMerge(t, wrong, full(wrong.Seed, len(wrong.Rows), len(row), wrong.Most))
			}
		}
	}
}

// P11.1: Add.

func TestAddOfWrongNumbers(t *testing.T) {
	for _, s := range rightSketches() {
		before := apart(s)
		for _, n := range wrongN {
			for _, key := range []string{"", "a", "abcde"} {
				mustNotAdd(t, s, key, n)
			}
		}
		if !same(s, before) {
			t.Fatalf("%v became %v", before, s)
		}
	}
}

// The cells were reckoned apart, by the words of layers 2 and 11.
func TestAddToCellsOfSomeKeys(t *testing.T) {
	long := make([]byte, api.KeyBytes)
	for i := range long {
		long[i] = byte(i)
	}
	for _, c := range []struct {
		seed       uint64
		rows, cols int
		key        string
		want       []int
	}{
		{1, 2, 8, "a", []int{1, 5}},
		{1, 7, 8, "a", []int{1, 5, 1, 7, 1, 4, 1}},
		{5, 3, 16, "\x05", []int{14, 0, 10}},
		{5, 3, 16, "x", []int{3, 15, 5}},
		{0, 7, 256, "a", []int{111, 154, 221, 225, 229, 157, 1}},
		{7, 3, 64, "", []int{0, 0, 0}},
		{7, 3, 64, "\x00", []int{54, 8, 26}},
		{7, 3, 64, "\x00\x00", []int{0, 26, 2}},
		{7, 3, 64, "abcde", []int{60, 17, 0}},
		{math.MaxUint64, 7, 256, string(long), []int{178, 211, 146, 18, 68, 58, 110}},
		{api.P - 3, 4, 16, "xyz", []int{13, 13, 13, 13}},
		{5, 3, 1, "k", []int{0, 0, 0}},
		{3, 7, 255, "rill", []int{209, 105, 97, 98, 239, 182, 195}},
		{2, 7, 3, "rill", []int{2, 0, 2, 2, 2, 0, 1}},
		{api.P + 2, 7, 3, "rill", []int{2, 0, 2, 2, 2, 0, 1}},
	} {
		want := noughts(c.seed, c.rows, c.cols, 255)
		for i, at := range c.want {
			want.Rows[i][at] = 3
		}
		if got := mustAdd(t, mustNew(t, c.seed, c.rows, c.cols, 255), c.key, 3); !same(got, want) {
			t.Errorf("Add of %q with %d, %d, %d: %v, want %v", c.key, c.seed, c.rows, c.cols, got, want)
		}
	}
}

func TestAdd(t *testing.T) {
	for _, s := range rightSketches() {
		before, cols := apart(s), len(s.Rows[0])
		for k, key := range keys() {
			cells := plainCells(s.Seed, len(s.Rows), cols, key)
			numbers := []int{0, 1, s.Most - 1, s.Most, min(s.Most+1, maxCount), maxCount - 1, maxCount}
			n := numbers[k%len(numbers)]
			want := apart(before)
			for i, at := range cells {
				want.Rows[i][at] = capped(want.Rows[i][at], n, s.Most)
			}
			got := mustAdd(t, s, key, n)
			if !same(got, want) {
				t.Fatalf("Add(%v, %q, %d) = %v, want %v", before, key, n, got, want)
			}
			if !Right(got) {
				t.Fatalf("Add(%v, %q, %d) = %v, which is not right", before, key, n, got)
			}
			if !same(s, before) {
				t.Fatalf("Add of %q: %v became %v", key, before, s)
			}
		}
	}
}

// Below Most, at it and beyond it, each cell by itself.
func TestAddStopsAtMost(t *testing.T) {
	for _, most := range rightMost {
		for _, had := range []int{0, 1, most / 2, most - 1, most} {
			for _, n := range []int{0, 1, most - had - 1, most - had, min(most-had+1, maxCount), most, maxCount} {
				if n < 0 {
					continue
				}
				s := noughts(1, 7, 8, most)
				for i, at := range []int{1, 5, 1, 7, 1, 4, 1} {
					if i%2 == 0 {
						s.Rows[i][at] = had
					}
				}
				got := mustAdd(t, s, "a", n)
				for i, at := range []int{1, 5, 1, 7, 1, 4, 1} {
					want := capped(s.Rows[i][at], n, most)
					if got.Rows[i][at] != want {
						t.Fatalf("%d and %d with Most %d: %d in the row %d", s.Rows[i][at], n, most, got.Rows[i][at], i)
					}
				}
			}
		}
	}
}

// Neither the room behind the lists nor what another answer holds is written into.
func TestAddKeepsToItsOwnMemory(t *testing.T) {
	room := noughts(1, 7, 256, 255).Rows
	s := Sketch{1, 255, make([][]int, 3, 7)}
	for i := range s.Rows {
		s.Rows[i] = room[i][:16]
	}
	behind := s.Rows[:7]
	grown := mustAdd(t, s, "a", 5)
	kept := apart(grown)
	for _, key := range keys() {
		mustAdd(t, s, key, 7)
		mustAdd(t, grown, key, 7)
		if !same(grown, kept) {
			t.Fatalf("Add of %q: %v became %v", key, kept, grown)
		}
	}
	for i := range grown.Rows {
		for at := range grown.Rows[i] {
			grown.Rows[i][at] = 9
		}
		if i > 0 {
			grown.Rows[i] = nil
		}
	}
	for i, row := range room {
		if !slices.Equal(row, make([]int, 256)) {
			t.Errorf("the row %d that was handed in became %v", i, row)
		}
	}
	for i, row := range behind {
		if i < 3 && (len(row) != 16 || &row[0] != &room[i][0]) || i >= 3 && row != nil {
			t.Errorf("the list of rows that was handed in has another row %d", i)
		}
	}
}

// Rows that are handed in as one list twice are two rows for all that.
func TestRowsOfOneMemory(t *testing.T) {
	for _, n := range []int{0, 3} {
		row := make([]int, 8)
		s := Sketch{1, 255, [][]int{row, row}}
		want := noughts(1, 2, 8, 255)
		want.Rows[0][1], want.Rows[1][5] = n, n
		for _, got := range []Sketch{mustAdd(t, s, "a", n), mustMerge(t, s, mustAdd(t, s, "a", n)), mustMerge(t, mustAdd(t, s, "a", n), s)} {
			if !same(got, want) {
				t.Errorf("Add or Merge: %v, want %v", got, want)
			}
			got.Rows[0][0] = 200
			if got.Rows[1][0] != 0 || row[0] != 0 {
				t.Error("two rows of an answer are one list")
			}
		}
		if !slices.Equal(row, make([]int, 8)) {
			t.Errorf("what was handed in became %v", row)
		}
	}
	row := []int{3, 0, 255, 128}
	twice := Sketch{1, 255, [][]int{row, row}}
	if m := mustMerge(t, twice, twice); !same(m, Sketch{1, 255, [][]int{{6, 0, 255, 255}, {6, 0, 255, 255}}}) {
		t.Errorf("merged with itself: %v", m)
	}
}

// P11.1: Get.

func TestGet(t *testing.T) {
	told := map[bool]int{}
	for _, s := range rightSketches() {
		before := apart(s)
		for _, key := range keys() {
			var numbers []int
			for i, at := range plainCells(s.Seed, len(s.Rows), len(s.Rows[0]), key) {
				numbers = append(numbers, before.Rows[i][at])
			}
			want := slices.Min(numbers)
			mustGet(t, s, key, want, want != s.Most)
			told[want != s.Most]++
		}
		if !same(s, before) {
			t.Fatalf("%v became %v", before, s)
		}
	}
	if told[true] == 0 || told[false] == 0 {
		t.Errorf("told: %v", told)
	}
}

// The least number tells, in the first row, a middle one or the last one; other cells do not.
func TestGetIsTheLeastOfTheCells(t *testing.T) {
	for _, most := range rightMost {
		for _, least := range []int{0, 1, most / 2, most - 1, most} {
			for rows := 1; rows <= 7; rows++ {
				for lowest := range rows {
					s, others := full(1, rows, 8, most), noughts(1, rows, 8, most)
					for i, at := range []int{1, 5, 1, 7, 1, 4, 1}[:rows] {
						others.Rows[i][at] = min(least+1+i, most)
						if i == lowest {
							s.Rows[i][at], others.Rows[i][at] = least, least
						}
					}
					mustGet(t, s, "a", least, least < most)
					mustGet(t, others, "a", least, least < most)
				}
			}
		}
	}
}

func TestGetOfANewOneAndAFullOne(t *testing.T) {
	for _, shape := range shapes {
		for _, most := range rightMost {
			for _, key := range keys() {
				mustGet(t, mustNew(t, 1, shape[0], shape[1], most), key, 0, true)
				mustGet(t, full(1, shape[0], shape[1], most), key, most, false)
			}
		}
	}
}

// P11.1: Merge.

func TestMergeOfUnlikeSketches(t *testing.T) {
	for _, of := range []func(uint64, int, int, int) Sketch{noughts, full} {
		list := []Sketch{
			of(1, 2, 8, 255), of(2, 2, 8, 255), of(api.P+1, 2, 8, 255), of(0, 2, 8, 255), of(1<<63+1, 2, 8, 255),
			of(1, 1, 8, 255), of(1, 3, 8, 255), of(1, 7, 8, 255),
			of(1, 2, 7, 255), of(1, 2, 9, 255), of(1, 2, 1, 255), of(1, 2, 256, 255), of(1, 7, 2, 255), of(1, 4, 4, 255), of(1, 1, 16, 255),
			of(1, 2, 8, 254), of(1, 2, 8, 256), of(1, 2, 8, 1), of(1, 2, 8, maxCount),
		}
		for i, a := range list {
			for _, b := range list[i+1:] {
				keptA, keptB := apart(a), apart(b)
				mustNotMerge(t, a, b)
				if !same(a, keptA) || !same(b, keptB) {
					t.Fatalf("%v, %v became %v, %v", keptA, keptB, a, b)
				}
			}
			mustMerge(t, a, apart(a))
		}
	}
}

func TestMerge(t *testing.T) {
	source := rand.New(rand.NewSource(12))
	for _, seed := range seeds {
		for _, shape := range shapes {
			for _, most := range rightMost {
				a, b := drawn(source, seed, shape[0], shape[1], most), drawn(source, seed, shape[0], shape[1], most)
				keptA, keptB := apart(a), apart(b)
				want := filled(seed, shape[0], shape[1], most, func(i, at int) int {
					return capped(keptA.Rows[i][at], keptB.Rows[i][at], most)
				})
				m, turned := mustMerge(t, a, b), mustMerge(t, b, a)
				if !same(m, want) || !same(turned, want) {
					t.Fatalf("Merge(%v, %v) = %v, turned about %v, want %v", a, b, m, turned, want)
				}
				if !Right(m) {
					t.Fatalf("Merge(%v, %v) = %v, which is not right", a, b, m)
				}
				if !same(a, keptA) || !same(b, keptB) {
					t.Fatalf("%v, %v became %v, %v", keptA, keptB, a, b)
				}
			}
		}
	}
}

// Sums below Most, at it and beyond it, side by side.
func TestMergeStopsAtMost(t *testing.T) {
	for _, most := range []int{255, maxCount} {
		a := Sketch{1, most, [][]int{{0, 1, most - 2, most - 1}, {most, most, 100, 100}, {most, 0, 5, 6}}}
		b := Sketch{1, most, [][]int{{0, 2, 1, 1}, {0, most, most - 101, most - 99}, {1, most, 6, 5}}}
		want := Sketch{1, most, [][]int{{0, 3, most - 1, most}, {most, most, most - 1, most}, {most, most, 11, 11}}}
		if m := mustMerge(t, a, b); !same(m, want) {
			t.Errorf("merged: %v, want %v", m, want)
		}
	}
}

func TestMergeWithItselfANewOneAndAFullOne(t *testing.T) {
	for _, s := range rightSketches() {
		before, rows, cols := apart(s), len(s.Rows), len(s.Rows[0])
		double := filled(s.Seed, rows, cols, s.Most, func(i, at int) int {
			return capped(before.Rows[i][at], before.Rows[i][at], s.Most)
		})
		empty, whole := mustNew(t, s.Seed, rows, cols, s.Most), full(s.Seed, rows, cols, s.Most)
		for _, m := range []Sketch{mustMerge(t, s, s), mustMerge(t, s, before)} {
			if !same(m, double) {
				t.Fatalf("%v with itself is %v", before, m)
			}
		}
		for _, m := range []Sketch{mustMerge(t, s, empty), mustMerge(t, empty, s)} {
			if !same(m, before) {
				t.Fatalf("%v with a new one is %v", before, m)
			}
		}
		for _, m := range []Sketch{mustMerge(t, s, whole), mustMerge(t, whole, s)} {
			if !same(m, whole) {
				t.Fatalf("%v with a full one is %v", before, m)
			}
		}
		if !same(s, before) || !same(empty, noughts(s.Seed, rows, cols, s.Most)) || !same(whole, full(s.Seed, rows, cols, s.Most)) {
			t.Fatalf("%v, a new one and a full one became %v, %v and %v", before, s, empty, whole)
		}
	}
}

func TestMergeKeepsToItsOwnMemory(t *testing.T) {
	a, b := full(1, 2, 8, 255), noughts(1, 2, 8, 255)
	for i := range 2 {
		a.Rows[i], b.Rows[i] = a.Rows[i][:4], b.Rows[i][:4]
	}
	firstA, firstB := &a.Rows[0][0], &b.Rows[0][0]
	keptA, keptB := apart(a), apart(b)
	for _, m := range []Sketch{mustMerge(t, a, b), mustMerge(t, b, a), mustMerge(t, a, a), mustMerge(t, b, b)} {
		kept := apart(m)
		mustMerge(t, m, a)
		mustMerge(t, a, m)
		if !same(m, kept) {
			t.Errorf("%v became %v", kept, m)
		}
		for i := range m.Rows {
			for at := range m.Rows[i] {
				m.Rows[i][at] = 77
			}
			m.Rows[i] = nil
		}
		if !same(a, keptA) || !same(b, keptB) || &a.Rows[0][0] != firstA || &b.Rows[0][0] != firstB {
			t.Fatalf("%v, %v became %v, %v", keptA, keptB, a, b)
		}
	}
	if a.Rows[1][:8][4] != 255 || b.Rows[1][:8][4] != 0 {
		t.Error("the room behind a row was written into")
	}
}

// The chapter's example.

func TestExample(t *testing.T) {
	s := mustAdd(t, mustNew(t, 1, 2, 8, 255), "a", 3)
	s = mustAdd(t, s, "a", 4)
	mustGet(t, s, "a", 7, true)
	mustGet(t, mustAdd(t, s, "a", 255), "a", 255, false)
	mustGet(t, mustAdd(t, s, "a", 247), "a", 254, true)
	mustGet(t, mustAdd(t, s, "a", 248), "a", 255, false)
}

// P11.2.

// coming is a key that comes, with how many.
type coming struct {
	key string
	n   int
}

// someComing are keys that come, some of them more than once, the greatest number at most most.
func someComing(source *rand.Rand, count, most int) []coming {
	var list []coming
	all := keys()
	for range count {
		list = append(list, coming{all[source.Intn(len(all))], source.Intn(most + 1)})
	}
	return list
}

func withAll(t *testing.T, s Sketch, list []coming) Sketch {
	t.Helper()
	for _, c := range list {
		s = mustAdd(t, s, c.key, c.n)
	}
	return s
}

// mustBeWithin holds what is told of a key against what came for it and for others of its cells.
func mustBeWithin(t *testing.T, s Sketch, key string, list []coming) bool {
	t.Helper()
	rows, cols := len(s.Rows), len(s.Rows[0])
	own, cells, others := 0, plainCells(s.Seed, rows, cols, key), make([]int, rows)
	for _, c := range list {
		if c.key == key {
			own += c.n
			continue
		}
		for i, at := range plainCells(s.Seed, rows, cols, c.key) {
			if at == cells[i] {
				others[i] += c.n
			}
		}
	}
	told, ok := Get(s, key)
	if ok != (told < s.Most) || ok && told < own || !ok && told != s.Most {
		t.Fatalf("Get(%v, %q) = %d, %t, and %d came", s, key, told, ok, own)
	}
	for i := range rows {
		if told > own+others[i] {
			t.Fatalf("Get(%v, %q) = %d, %t, and %d came, and %d of others in the row %d", s, key, told, ok, own, others[i], i)
		}
	}
	// The least of these bounds is told, as far as Most.
	if want := min(own+slices.Min(others), s.Most); told != want {
		t.Fatalf("Get(%v, %q) = %d, want %d", s, key, told, want)
	}
	return ok && told > own
}

func TestWhatIsToldIsNeverTooLow(t *testing.T) {
	source := rand.New(rand.NewSource(13))
	more := 0
	for _, seed := range seeds {
		for _, shape := range shapes {
			for _, most := range []int{1, 255, 2000, maxCount} {
				s := mustNew(t, seed, shape[0], shape[1], most)
				list := someComing(source, 30, min(100, most))
				for i, c := range list {
					s = mustAdd(t, s, c.key, c.n)
					if mustBeWithin(t, s, c.key, list[:i+1]) {
						more++
					}
				}
				for _, key := range append(keys(), "never", "came") {
					if mustBeWithin(t, s, key, list) {
						more++
					}
				}
			}
		}
	}
	if more == 0 {
		t.Error("no key was told more than came for it")
	}
}

// A full sketch still tells the keys beside it that are not.
func TestWhatIsToldBesideFullCells(t *testing.T) {
	s := mustAdd(t, mustAdd(t, mustNew(t, 5, 3, 16, 255), "x", maxCount), "\x05", 9)
	mustGet(t, s, "x", 255, false)
	mustGet(t, s, "\x05", 9, true)
}

func TestTheOrderDoesNotMatter(t *testing.T) {
	source := rand.New(rand.NewSource(14))
	for _, shape := range shapes {
		for _, most := range []int{1, 255, 2000, maxCount} {
			list := someComing(source, 24, min(2*most, maxCount))
			empty := mustNew(t, 5, shape[0], shape[1], most)
			want := withAll(t, empty, list)
			for range 6 {
				source.Shuffle(len(list), func(i, j int) { list[i], list[j] = list[j], list[i] })
				if got := withAll(t, empty, list); !same(got, want) {
					t.Fatalf("in another order: %v, not %v", got, want)
				}
			}
		}
	}
}

// All of a number at once is the same as one part behind another.
func TestPartsOfANumber(t *testing.T) {
	for _, shape := range shapes {
		for _, most := range []int{1, 255, 2000, maxCount} {
			s := mustNew(t, 5, shape[0], shape[1], most)
			for _, n := range []int{0, 1, 7, 300, maxCount} {
				if once, parts := mustAdd(t, s, "k", n), mustAdd(t, mustAdd(t, s, "k", n/3), "k", n-n/3); !same(once, parts) {
					t.Fatalf("%d at once: %v, in parts: %v", n, once, parts)
				}
			}
		}
	}
}

func TestMergedIsAllAdded(t *testing.T) {
	source := rand.New(rand.NewSource(15))
	for _, seed := range seeds {
		for _, shape := range shapes {
			for _, most := range []int{1, 255, 2000, maxCount} {
				list := someComing(source, 16, min(most, 500))
				empty := mustNew(t, seed, shape[0], shape[1], most)
				want := withAll(t, empty, list)
				for _, at := range []int{0, 1, 7, len(list) - 1, len(list)} {
					if m := mustMerge(t, withAll(t, empty, list[:at]), withAll(t, empty, list[at:])); !same(m, want) {
						t.Fatalf("merged at %d: %v, not %v", at, m, want)
					}
				}
			}
		}
	}
}
