package signed

import (
	"math"
	"math/rand"
	"reflect"
	"slices"
	"strings"
	"testing"

	"rillmeter/api"
	"rillmeter/hash"
)

const maxCount = 1 << 40

var (
	rightRows = []int{1, 3, 5, 7}
	wrongRows = []int{math.MinInt, math.MinInt + 1, -7, -3, -2, -1, 0, 2, 4, 6, 8, 9, 11, 255, 256, 1<<32 + 1, math.MaxInt}
	rightCols = []int{1, 2, 3, 8, 64, 255, 256}
	wrongCols = []int{math.MinInt, math.MinInt32, -257, -256, -8, -1, 0, 257, 258, 512, 1<<32 + 8, math.MaxInt}
	rightN    = []int{-maxCount, -maxCount + 1, -300, -2, -1, 0, 1, 2, 300, maxCount - 1, maxCount}
	// wrongNumbers are neither numbers of a sketch nor such as Add may be given.
	wrongNumbers = []int{math.MinInt, math.MinInt + 1, -2 * maxCount, -maxCount - 2, -maxCount - 1, maxCount + 1, maxCount + 2, 2 * maxCount, math.MaxInt - 1, math.MaxInt}
	// Some seeds differ by the prime alone: their keys have the same cells and signs.
	seeds = []uint64{0, 1, 2, 7, api.P - 3, api.P - 1, api.P, api.P + 1, 1 << 61, 1 << 63, math.MaxUint64 - 2, math.MaxUint64}
	// shapes are rows and cols of the edges and of the middle.
	shapes = [][2]int{{1, 1}, {1, 256}, {7, 1}, {7, 256}, {3, 8}, {5, 16}, {3, 3}, {7, 2}, {5, 255}}
	// The cells and signs of "a" in a sketch of the Seed 1 with rows of 8 numbers, reckoned apart.
	cellsOfA = []int{1, 1, 1, 1, 7, 7, 3}
	signsOfA = []int{1, 1, -1, -1, -1, 1, 1}
)

// keys are of no byte, of one and of many.
func keys() []string {
	source := rand.New(rand.NewSource(20))
	list := []string{"", "a", "b", "\x00", "\xff", "\x00\x00", "ab", "abc", "abcd", "abcde", "é", strings.Repeat("long", 500) + "er"}
	for range 12 {
		some := make([]byte, api.KeyBytes)
		source.Read(some)
		list = append(list, string(some))
	}
	return list
}

// filled is a sketch, each number of which is what of tells.
func filled(seed uint64, rows, cols int, of func(i, at int) int) Sketch {
	s := Sketch{Seed: seed}
	for i := 0; i < rows; i++ {
		row := make([]int, cols)
		for at := range row {
			row[at] = of(i, at)
		}
		s.Rows = append(s.Rows, row)
	}
	return s
}

// all is a sketch of one number.
func all(seed uint64, rows, cols, number int) Sketch {
	return filled(seed, rows, cols, func(int, int) int { return number })
}

func noughts(seed uint64, rows, cols int) Sketch { return all(seed, rows, cols, 0) }

// drawn is a sketch of any numbers up to most and down to -most, these and 0 among them.
func drawn(source *rand.Rand, seed uint64, rows, cols, most int) Sketch {
	return filled(seed, rows, cols, func(int, int) int {
		switch source.Intn(8) {
		case 0:
			return 0
		case 1:
			return most
		case 2:
			return -most
		}
		return source.Intn(2*most+1) - most
	})
}

// apart is a sketch of the same, in memory of its own.
func apart(s Sketch) Sketch {
	o := Sketch{Seed: s.Seed}
	for _, row := range s.Rows {
		o.Rows = append(o.Rows, slices.Clone(row))
	}
	return o
}

// same: a list that is nil and one that is empty are the same.
func same(a, b Sketch) bool {
	return a.Seed == b.Seed && slices.EqualFunc(a.Rows, b.Rows, slices.Equal[[]int])
}

// plain are the cells and the signs by the words of the chapter.
func plain(seed uint64, rows, cols int, key string) (cells, signs []int) {
	for i := 0; i < rows; i++ {
		cells = append(cells, hash.Cell(hash.Row(seed, 2*i), key, cols))
		signs = append(signs, hash.Sign(hash.Row(seed, 2*i+1), key))
	}
	return cells, signs
}

// beyond: whether there is no such number in a sketch.
func beyond(n int) bool { return n > maxCount || n < -maxCount }

// rightSketches are of all edges: of noughts, of the greatest and the least number in each cell, and of any numbers.
func rightSketches() []Sketch {
	source := rand.New(rand.NewSource(21))
	var list []Sketch
	for _, seed := range seeds {
		for _, shape := range shapes {
			for _, number := range []int{0, 1, -1, maxCount, -maxCount} {
				list = append(list, all(seed, shape[0], shape[1], number))
			}
			list = append(list, drawn(source, seed, shape[0], shape[1], 1000), drawn(source, seed, shape[0], shape[1], maxCount))
		}
	}
	return list
}

// wrongSketches are wrong in their number of rows, in a length, in a number, or in more of these.
func wrongSketches() []Sketch {
	list := []Sketch{{}, {Seed: 1}, {Seed: 1, Rows: [][]int{}}, {Seed: 1, Rows: [][]int{{}}}, {Seed: 1, Rows: [][]int{nil, nil, nil}}}
	for _, seed := range []uint64{0, 1, api.P, math.MaxUint64} {
		for _, number := range []int{0, maxCount, -maxCount} {
			for _, rows := range []int{0, 2, 4, 6, 8, 9, 11} {
				for _, cols := range []int{0, 1, 8, 256, 257} {
					list = append(list, all(seed, rows, cols, number))
				}
			}
			for _, rows := range rightRows {
				for _, cols := range []int{0, 257, 258, 512} {
					list = append(list, all(seed, rows, cols, number))
				}
			}
		}
	}
	return slices.Concat(list, withUnlikeRows(), withWrongNumbers())
}

// withUnlikeRows are sketches one row of which is longer or shorter than the others.
func withUnlikeRows() []Sketch {
	var list []Sketch
	for _, rows := range []int{3, 5, 7} {
		for _, cols := range []int{1, 2, 8, 256} {
			for i := range rows {
				for _, other := range []int{0, 1, cols - 1, cols + 1, 256, 257} {
					if other == cols {
						continue
					}
					s := noughts(1, rows, cols)
					s.Rows[i] = make([]int, other)
					list = append(list, s)
				}
			}
		}
	}
	return list
}

// withWrongNumbers are sketches one number of which is beyond either end.
func withWrongNumbers() []Sketch {
	var list []Sketch
	for _, number := range wrongNumbers {
		for _, rows := range rightRows {
			for i := range rows {
				for _, at := range []int{0, 3, 7} {
					for _, others := range []int{0, maxCount, -maxCount} {
						s := all(1, rows, 8, others)
						s.Rows[i][at] = number
						list = append(list, s)
					}
				}
			}
		}
	}
	return list
}

func mustNew(t *testing.T, seed uint64, rows, cols int) Sketch {
	t.Helper()
	s, err := New(seed, rows, cols)
	if err != api.OK {
		t.Fatalf("New(%d, %d, %d): error %d", seed, rows, cols, err)
	}
	return s
}

func mustAdd(t *testing.T, s Sketch, key string, n int) Sketch {
	t.Helper()
	o, err := Add(s, key, n)
	if err != api.OK {
		t.Fatalf("Add(%v, %q, %d): error %d", s, key, n, err)
	}
	return o
}

// mustNotAdd holds that nothing but the error is told, and that the sketch stays as it was.
func mustNotAdd(t *testing.T, s Sketch, key string, n int, want api.Errno) {
	t.Helper()
	before := apart(s)
	if o, err := Add(s, key, n); err != want || !same(o, Sketch{}) {
		t.Fatalf("Add(%v, %q, %d) = %v, %d, not the error %d alone", s, key, n, o, err, want)
	}
	if !same(s, before) {
		t.Fatalf("Add of %q, %d: %v became %v", key, n, before, s)
	}
}

func mustGet(t *testing.T, s Sketch, key string, want int) {
	t.Helper()
	if got := Get(s, key); got != want {
		t.Fatalf("Get(%v, %q) = %d, want %d", s, key, got, want)
	}
}

func mustCell(t *testing.T, s Sketch, key string, i int, want int) {
	t.Helper()
	if got := Cell(s, key, i); got != want {
		t.Fatalf("Cell(%v, %q, %d) = %d, want %d", s, key, i, got, want)
	}
}

func mustMerge(t *testing.T, a, b Sketch) Sketch {
	t.Helper()
	m, err := Merge(a, b)
	if err != api.OK {
		t.Fatalf("Merge(%v, %v): error %d", a, b, err)
	}
	return m
}

// mustNotMerge holds that nothing but the error is told, whichever of the two stands first, and that both stay as they were.
func mustNotMerge(t *testing.T, a, b Sketch, want api.Errno) {
	t.Helper()
	keptA, keptB := apart(a), apart(b)
	for _, pair := range [][2]Sketch{{a, b}, {b, a}} {
		if m, err := Merge(pair[0], pair[1]); err != want || !same(m, Sketch{}) {
			t.Fatalf("Merge(%v, %v) = %v, %d, not the error %d alone", pair[0], pair[1], m, err, want)
		}
	}
	if !same(a, keptA) || !same(b, keptB) {
		t.Fatalf("%v, %v became %v, %v", keptA, keptB, a, b)
	}
}

// P12.1: New.

func TestNew(t *testing.T) {
	for _, seed := range seeds {
		for _, rows := range rightRows {
			for _, cols := range rightCols {
				s := mustNew(t, seed, rows, cols)
				if !reflect.DeepEqual(s, noughts(seed, rows, cols)) {
					t.Fatalf("New(%d, %d, %d) = %v", seed, rows, cols, s)
				}
				if !Right(s) {
					t.Fatalf("New(%d, %d, %d) is not right", seed, rows, cols)
				}
			}
		}
	}
}

func TestNewOfWrongNumbers(t *testing.T) {
	refused := func(rows, cols int) {
		t.Helper()
		for _, seed := range seeds {
			if s, err := New(seed, rows, cols); err != api.ErrArg || !same(s, Sketch{}) {
				t.Fatalf("New(%d, %d, %d) = %v, %d, not the error alone", seed, rows, cols, s, err)
			}
		}
	}
	for _, rows := range wrongRows {
		for _, cols := range slices.Concat(rightCols, wrongCols) {
			refused(rows, cols)
		}
	}
	for _, rows := range rightRows {
		for _, cols := range wrongCols {
			refused(rows, cols)
		}
	}
}

func TestNewOfEachShape(t *testing.T) {
	for rows := -10; rows <= 20; rows++ {
		for cols := -10; cols <= 270; cols++ {
			want := api.ErrArg
			if (rows == 1 || rows == 3 || rows == 5 || rows == 7) && cols >= 1 && cols <= 256 {
				want = api.OK
			}
			if _, err := New(1, rows, cols); err != want {
				t.Fatalf("New of %d rows of %d numbers: error %d, want %d", rows, cols, err, want)
			}
		}
	}
}

// Neither two new sketches nor two rows of one share any memory.
func TestNewSketchesShareNothing(t *testing.T) {
	s, o := mustNew(t, 1, 3, 8), mustNew(t, 1, 3, 8)
	s.Rows[1] = append(append(s.Rows[1][:3], 9), 8, 7, 6, 5, 4, 3, 2)
	s.Rows[0][7] = 1
	if !same(o, noughts(1, 3, 8)) || !same(mustNew(t, 1, 3, 8), o) {
		t.Errorf("a number of one sketch is another's: %v", o)
	}
	if !slices.Equal(s.Rows[2], make([]int, 8)) || s.Rows[0][0] != 0 {
		t.Errorf("a number of one row is another's: %v", s.Rows)
	}
}

// P12.1: Right.

func TestRight(t *testing.T) {
	for _, s := range rightSketches() {
		before := apart(s)
		if !Right(s) {
			t.Fatalf("Right(%v) = false", s)
		}
		if !same(s, before) {
			t.Fatalf("%v became %v", before, s)
		}
	}
	for _, s := range wrongSketches() {
		before := apart(s)
		if Right(s) {
			t.Fatalf("Right(%v) = true", s)
		}
		if !same(s, before) {
			t.Fatalf("%v became %v", before, s)
		}
	}
}

func TestRightOfEachShape(t *testing.T) {
	for rows := range 17 {
		for cols := range 520 {
			want := (rows == 1 || rows == 3 || rows == 5 || rows == 7) && cols >= 1 && cols <= 256
			if got := Right(noughts(uint64(cols), rows, cols)); got != want {
				t.Fatalf("Right of %d rows of %d numbers: %t", rows, cols, got)
			}
		}
	}
}

// Each number counts, wherever it stands.
func TestRightOfEachNumber(t *testing.T) {
	for _, rows := range rightRows {
		for i := range rows {
			for at := range 16 {
				s := noughts(3, rows, 16)
				for _, number := range rightN {
					s.Rows[i][at] = number
					if !Right(s) {
						t.Fatalf("not right with %d in the row %d at %d", number, i, at)
					}
				}
				for _, number := range wrongNumbers {
					s.Rows[i][at] = number
					if Right(s) {
						t.Fatalf("right with %d in the row %d at %d", number, i, at)
					}
				}
			}
		}
	}
}

// The room behind a list does not make it longer.
func TestRightGoesByLength(t *testing.T) {
	rows := noughts(1, 14, 512).Rows
	cut := func(count, cols int) Sketch {
		s := Sketch{1, slices.Clone(rows)[:count]}
		for i := range s.Rows {
			s.Rows[i] = s.Rows[i][:cols]
		}
		return s
	}
	for _, s := range []Sketch{cut(1, 1), cut(7, 1), cut(1, 256), cut(7, 256)} {
		if !Right(s) {
			t.Errorf("%d rows of %d with room behind are not right", len(s.Rows), len(s.Rows[0]))
		}
	}
	for _, s := range []Sketch{cut(0, 1), cut(2, 1), cut(8, 1), cut(9, 1), cut(1, 0), cut(7, 257)} {
		if Right(s) {
			t.Errorf("%d rows with room behind are right", len(s.Rows))
		}
	}
	s := cut(3, 8)
	s.Rows[0][:9][8] = maxCount + 1
	if !Right(s) {
		t.Error("a number behind a row makes it wrong")
	}
}

// P12.1: sketches that are not right.

func TestWrongSketches(t *testing.T) {
	right := []Sketch{noughts(1, 3, 8), all(1, 1, 1, maxCount), all(0, 7, 256, -maxCount)}
	for _, s := range wrongSketches() {
		before := apart(s)
		for _, key := range []string{"", "a", "\x00", "abcde"} {
			mustGet(t, s, key, 0)
			for _, i := range []int{math.MinInt, -1, 0, 1, 2, 6, 7, 8, math.MaxInt} {
				mustCell(t, s, key, i, 0)
			}
			for _, n := range []int{-maxCount - 1, -maxCount, -1, 0, 1, maxCount, maxCount + 1} {
				mustNotAdd(t, s, key, n, api.ErrArg)
			}
		}
		mustNotMerge(t, s, s, api.ErrArg)
		mustNotMerge(t, s, before, api.ErrArg)
		for _, o := range right {
			mustNotMerge(t, s, o, api.ErrArg)
		}
		if !same(s, before) {
			t.Fatalf("%v became %v", before, s)
		}
	}
}

// Of two that are alike but for what is wrong in one of them, each may be the wrong one.
func TestMergeOfOneThatIsWrong(t *testing.T) {
	for _, wrong := range slices.Concat(withUnlikeRows(), withWrongNumbers()) {
		for _, row := range wrong.Rows {
			if len(row) < 1 || len(row) > 256 {
				continue
			}
			for _, number := range []int{0, 1, -1, maxCount, -maxCount} {
				mustNotMerge(t, wrong, all(wrong.Seed, len(wrong.Rows), len(row), number), api.ErrArg)
			}
		}
	}
}

// P12.1: Add.

// A wrong number is ErrArg, whether a cell would be beyond an end with it or not.
func TestAddOfWrongNumbers(t *testing.T) {
	for _, s := range rightSketches() {
		for _, n := range wrongNumbers {
			for _, key := range []string{"", "a", "abcde"} {
				mustNotAdd(t, s, key, n, api.ErrArg)
			}
		}
	}
}

// The cells and signs were reckoned apart, by the words of layers 2 and 12.
func TestAddToCellsOfSomeKeys(t *testing.T) {
	long := make([]byte, api.KeyBytes)
	for i := range long {
		long[i] = byte(i)
	}
	for _, c := range []struct {
		seed  uint64
		cols  int
		key   string
		cells []int
		signs []int
	}{
		{1, 8, "a", []int{1, 1, 1}, []int{1, 1, -1}},
		{1, 8, "a", []int{1, 1, 1, 1, 7, 7, 3}, []int{1, 1, -1, -1, -1, 1, 1}},
		{1, 8, "b", []int{0}, []int{-1}},
		{5, 64, "x", []int{3, 53, 45, 2, 52}, []int{1, 1, -1, 1, 1}},
		{5, 64, "\x05", []int{30, 26, 56, 22, 55}, []int{-1, 1, -1, 1, -1}},
		{0, 256, "a", []int{111, 221, 229, 1, 83, 14, 108}, []int{-1, 1, 1, 1, 1, 1, -1}},
		{7, 64, "", []int{0, 0, 0}, []int{-1, -1, -1}},
		{7, 64, "\x00", []int{54, 26, 46}, []int{-1, -1, 1}},
		{7, 64, "\x00\x00", []int{0, 2, 5}, []int{-1, 1, -1}},
		{7, 64, "abcde", []int{60, 0, 2}, []int{1, -1, 1}},
		{math.MaxUint64, 256, string(long), []int{178, 146, 68, 110, 187, 155, 222}, []int{1, -1, -1, 1, -1, 1, 1}},
		{api.P - 3, 16, "xyz", []int{13, 13, 13, 13, 13}, []int{1, 1, 1, 1, 1}},
		{5, 1, "k", []int{0, 0, 0}, []int{-1, 1, -1}},
		{3, 255, "rill", []int{209, 97, 239, 195, 201, 14, 200}, []int{1, -1, -1, -1, 1, 1, 1}},
		{2, 3, "rill", []int{2, 2, 2, 1, 2, 0, 0}, []int{-1, 1, -1, 1, -1, 1, 1}},
		{api.P + 2, 3, "rill", []int{2, 2, 2, 1, 2, 0, 0}, []int{-1, 1, -1, 1, -1, 1, 1}},
	} {
		empty := mustNew(t, c.seed, len(c.cells), c.cols)
		for _, n := range rightN {
			want := noughts(c.seed, len(c.cells), c.cols)
			for i, at := range c.cells {
				want.Rows[i][at] = n * c.signs[i]
				mustCell(t, want, c.key, i, at)
			}
			if got := mustAdd(t, empty, c.key, n); !same(got, want) {
				t.Errorf("Add of %q, %d with %d, %d, %d: %v, want %v", c.key, n, c.seed, len(c.cells), c.cols, got, want)
			}
			mustGet(t, want, c.key, n)
		}
	}
}

func TestAdd(t *testing.T) {
	told := map[api.Errno]int{}
	for _, s := range rightSketches() {
		before := apart(s)
		for k, key := range keys() {
			n := rightN[k%len(rightN)]
			cells, signs := plain(s.Seed, len(s.Rows), len(s.Rows[0]), key)
			want, full := apart(before), false
			for i, at := range cells {
				want.Rows[i][at] += n * signs[i]
				full = full || beyond(want.Rows[i][at])
			}
			if full {
				mustNotAdd(t, s, key, n, api.ErrFull)
				told[api.ErrFull]++
				continue
			}
			got := mustAdd(t, s, key, n)
			told[api.OK]++
			if !same(got, want) {
				t.Fatalf("Add(%v, %q, %d) = %v, want %v", before, key, n, got, want)
			}
			if !Right(got) {
				t.Fatalf("Add(%v, %q, %d) = %v, which is not right", before, key, n, got)
			}
			if !same(s, before) {
				t.Fatalf("Add of %q: %v became %v", key, before, s)
			}
		}
	}
	if told[api.OK] == 0 || told[api.ErrFull] == 0 {
		t.Errorf("told: %v", told)
	}
}

// One cell ends at an end, just ahead of it or beyond it; the others have room.
func TestAddAtEitherEnd(t *testing.T) {
	for _, rows := range rightRows {
		for i := range rows {
			for _, end := range []int{-maxCount, maxCount} {
				for _, n := range []int{1, 2, 300, maxCount} {
					// The step is one towards the end, in the row i.
					step, inward := n*signsOfA[i], -1
					if end < 0 {
						step, inward = -step, 1
					}
					s := noughts(1, rows, 8)
					at := cellsOfA[i]
					s.Rows[i][at] = end - step*signsOfA[i]
					want := apart(s)
					for j := range rows {
						want.Rows[j][cellsOfA[j]] += step * signsOfA[j]
					}
					if got := mustAdd(t, s, "a", step); !same(got, want) || got.Rows[i][at] != end {
						t.Fatalf("%v with %d: %v, want %v", s, step, got, want)
					}
					s.Rows[i][at] += inward
					want.Rows[i][at] += inward
					if got := mustAdd(t, s, "a", step); !same(got, want) {
						t.Fatalf("%v with %d: %v, want %v", s, step, got, want)
					}
					s.Rows[i][at] -= 2 * inward
					if beyond(s.Rows[i][at]) {
						t.Fatalf("%v is not right to begin with", s)
					}
					mustNotAdd(t, s, "a", step, api.ErrFull)
				}
			}
		}
	}
}

// What is beyond in one row is not made good by another, nor by a second key.
func TestAddIsFullByAnyRow(t *testing.T) {
	for _, rows := range rightRows {
		for i := range rows {
			s := noughts(1, rows, 8)
			s.Rows[i][cellsOfA[i]] = maxCount * signsOfA[i]
			mustNotAdd(t, s, "a", 1, api.ErrFull)
			mustNotAdd(t, s, "a", maxCount, api.ErrFull)
			for _, n := range []int{0, -1, -maxCount} {
				got := mustAdd(t, s, "a", n)
				if got.Rows[i][cellsOfA[i]] != (maxCount+n)*signsOfA[i] {
					t.Fatalf("%v with %d: %v", s, n, got)
				}
			}
		}
		full, low := noughts(1, rows, 8), noughts(1, rows, 8)
		for i := range rows {
			full.Rows[i][cellsOfA[i]], low.Rows[i][cellsOfA[i]] = maxCount*signsOfA[i], -maxCount*signsOfA[i]
		}
		mustNotAdd(t, full, "a", 1, api.ErrFull)
		mustNotAdd(t, full, "a", maxCount, api.ErrFull)
		mustNotAdd(t, low, "a", -1, api.ErrFull)
		mustNotAdd(t, low, "a", -maxCount, api.ErrFull)
		if !same(mustAdd(t, full, "a", -maxCount), noughts(1, rows, 8)) || !same(mustAdd(t, low, "a", maxCount), noughts(1, rows, 8)) {
			t.Fatalf("%d rows are not emptied", rows)
		}
	}
}

// Cells of other keys may stand at either end.
func TestAddBesideFullCells(t *testing.T) {
	for _, number := range []int{-maxCount, maxCount} {
		s := all(1, 7, 8, number)
		for i, at := range cellsOfA {
			s.Rows[i][at] = 0
		}
		want := apart(s)
		for i, at := range cellsOfA {
			want.Rows[i][at] = 9 * signsOfA[i]
		}
		if got := mustAdd(t, s, "a", 9); !same(got, want) {
			t.Errorf("Add: %v, want %v", got, want)
		}
	}
}

// Neither the room behind the lists nor what another answer holds is written into.
func TestAddKeepsToItsOwnMemory(t *testing.T) {
	room := noughts(1, 7, 256).Rows
	s := Sketch{1, make([][]int, 3, 7)}
	for i := range s.Rows {
		s.Rows[i] = room[i][:16]
	}
	behind := s.Rows[:7]
	grown := mustAdd(t, s, "a", 5)
	kept := apart(grown)
	for _, key := range keys() {
		mustAdd(t, s, key, 7)
		mustAdd(t, grown, key, 7)
		mustAdd(t, grown, key, 0)
		if !same(grown, kept) {
			t.Fatalf("Add of %q: %v became %v", key, kept, grown)
		}
	}
	none := mustAdd(t, s, "a", 0)
	for _, o := range []Sketch{none, grown} {
		for i := range o.Rows {
			for at := range o.Rows[i] {
				o.Rows[i][at] = 9
			}
			if i > 0 {
				o.Rows[i] = nil
			}
		}
	}
	for i, row := range room {
		if !slices.Equal(row, make([]int, 256)) {
			t.Errorf("the row %d that was handed in became %v", i, row)
		}
	}
	for i, row := range behind {
		if i < 3 && (len(row) != 16 || &row[0] != &room[i][0]) || i >= 3 && row != nil {
			t.Errorf("the list of rows that was handed in has another row %d", i)
		}
	}
}

// Rows that are handed in as one list more than once are as many rows for all that.
func TestRowsOfOneMemory(t *testing.T) {
	for _, n := range []int{0, 3, -3} {
		row := make([]int, 8)
		s := Sketch{1, [][]int{row, row, row}}
		want := noughts(1, 3, 8)
		for i := range 3 {
			want.Rows[i][cellsOfA[i]] = n * signsOfA[i]
		}
		for _, got := range []Sketch{mustAdd(t, s, "a", n), mustMerge(t, s, mustAdd(t, s, "a", n)), mustMerge(t, mustAdd(t, s, "a", n), s)} {
			if !same(got, want) {
				t.Errorf("Add or Merge: %v, want %v", got, want)
			}
			got.Rows[0][0] = 200
			if got.Rows[1][0] != 0 || got.Rows[2][0] != 0 || row[0] != 0 {
				t.Error("two rows of an answer are one list")
			}
		}
		if !slices.Equal(row, make([]int, 8)) {
			t.Errorf("what was handed in became %v", row)
		}
	}
	row := []int{3, 0, -255, 128}
	thrice := Sketch{1, [][]int{row, row, row}}
	if m := mustMerge(t, thrice, thrice); !same(m, Sketch{1, [][]int{{6, 0, -510, 256}, {6, 0, -510, 256}, {6, 0, -510, 256}}}) {
		t.Errorf("merged with itself: %v", m)
	}
}

// P12.1: Get.

// middle is the number that no more than half of the others are below, and no more than half beyond.
func middle(t *testing.T, numbers []int) int {
	t.Helper()
	for _, number := range numbers {
		below, above := 0, 0
		for _, other := range numbers {
			if other < number {
				below++
			}
			if other > number {
				above++
			}
		}
		if below <= len(numbers)/2 && above <= len(numbers)/2 {
			return number
		}
	}
	t.Fatalf("%v have no middle one", numbers)
	return 0
}

func TestGet(t *testing.T) {
	for _, s := range rightSketches() {
		before := apart(s)
		for _, key := range keys() {
			var numbers []int
			cells, signs := plain(s.Seed, len(s.Rows), len(s.Rows[0]), key)
			for i, at := range cells {
				numbers = append(numbers, before.Rows[i][at]*signs[i])
			}
			mustGet(t, s, key, middle(t, numbers))
		}
		if !same(s, before) {
			t.Fatalf("%v became %v", before, s)
		}
	}
}

// withNumbers is a sketch in which the cells of "a", times its signs, are such numbers; all others are other.
func withNumbers(numbers []int, other int) Sketch {
	s := all(1, len(numbers), 8, other)
	for i, number := range numbers {
		s.Rows[i][cellsOfA[i]] = number * signsOfA[i]
	}
	return s
}

func TestGetIsTheMiddleOne(t *testing.T) {
	for _, c := range []struct {
		numbers []int
		want    int
	}{
		{[]int{0}, 0}, {[]int{9}, 9}, {[]int{-9}, -9}, {[]int{maxCount}, maxCount}, {[]int{-maxCount}, -maxCount},
		{[]int{1, 2, 3}, 2}, {[]int{3, 2, 1}, 2}, {[]int{2, 1, 3}, 2}, {[]int{1, 3, 2}, 2},
		{[]int{4, 4, 9}, 4}, {[]int{4, 9, 9}, 9}, {[]int{9, 4, 4}, 4}, {[]int{9, 4, 9}, 9}, {[]int{5, 5, 5}, 5},
		{[]int{-1, -2, -3}, -2}, {[]int{-9, 1, 2}, 1}, {[]int{-9, -8, 1}, -8}, {[]int{-3, 3, -3}, -3}, {[]int{10, 0, -10}, 0},
		{[]int{maxCount, -maxCount, 7}, 7}, {[]int{maxCount, maxCount, -maxCount}, maxCount}, {[]int{-maxCount, maxCount, -maxCount}, -maxCount},
		{[]int{5, 1, 4, 2, 3}, 3}, {[]int{1, 1, 2, 9, 9}, 2}, {[]int{9, 1, 9, 1, 1}, 1}, {[]int{-5, -1, 0, 7, -2}, -1},
		{[]int{0, 0, 0, 100, 100}, 0}, {[]int{0, 100, 0, 100, 100}, 100}, {[]int{2, 10, 100, 3, 20}, 10},
		{[]int{7, 6, 5, 4, 3, 2, 1}, 4}, {[]int{1, 100, 2, 99, 3, 98, 4}, 4}, {[]int{-1, -100, -2, -99, -3, -98, -4}, -4},
		{[]int{8, 8, 8, 1, 1, 1, 1}, 1}, {[]int{8, 8, 8, 8, 1, 1, 1}, 8}, {[]int{-8, -8, -8, 5, 6, 7, 9}, 5}, {[]int{maxCount, 0, -maxCount, 3, -3, 2, -2}, 0},
	} {
		for _, other := range []int{0, 6, -6, maxCount, -maxCount} {
			for turn := range c.numbers {
				turned := slices.Concat(c.numbers[turn:], c.numbers[:turn])
				mustGet(t, withNumbers(turned, other), "a", c.want)
			}
		}
	}
}

func TestGetOfANewOneAndAFullOne(t *testing.T) {
	for _, shape := range shapes {
		for _, key := range keys() {
			mustGet(t, mustNew(t, 1, shape[0], shape[1]), key, 0)
			_, signs := plain(1, shape[0], shape[1], key)
			full := all(1, shape[0], shape[1], maxCount)
			mustGet(t, full, key, maxCount*middle(t, signs))
		}
	}
}

// Get leaves rows that stand in no order as they stand.
func TestGetLeavesRowsAsTheyStand(t *testing.T) {
	numbers := []int{5, -7, 3, 0, 9, -2, 4}
	s := withNumbers(numbers, 1)
	first, before := slices.Clone(s.Rows), apart(s)
	mustGet(t, s, "a", 3)
	for i, row := range s.Rows {
		if &row[0] != &first[i][0] || !same(s, before) {
			t.Fatalf("the row %d stands elsewhere: %v", i, s)
		}
	}
}

// P12.1: Cell.

func TestCell(t *testing.T) {
	for _, s := range rightSketches() {
		before, rows := apart(s), len(s.Rows)
		for _, key := range keys() {
			cells, _ := plain(s.Seed, rows, len(s.Rows[0]), key)
			for i, at := range cells {
				mustCell(t, s, key, i, at)
			}
		}
		if !same(s, before) {
			t.Fatalf("%v became %v", before, s)
		}
	}
}

func TestCellWithoutSuchARow(t *testing.T) {
	for _, seed := range seeds {
		for _, rows := range rightRows {
			for _, cols := range []int{1, 8, 256} {
				s := noughts(seed, rows, cols)
				for _, i := range []int{math.MinInt, math.MinInt + 1, -1 << 62, -1 << 32, -8, -2, -1, rows, rows + 1, 2 * rows, 8, 1 << 32, 1 << 62, math.MaxInt - 1, math.MaxInt} {
					for _, key := range keys() {
						mustCell(t, s, key, i, 0)
					}
				}
			}
		}
	}
	if Cell(noughts(1, 1, 8), "a", 0) != 1 {
		t.Error("the key has the cell 0, so that nothing is held")
	}
}

// The room behind the rows makes no row of it.
func TestCellGoesByLength(t *testing.T) {
	s := noughts(1, 7, 8)
	s.Rows = s.Rows[:3]
	for i := 3; i < 7; i++ {
		mustCell(t, s, "a", i, 0)
	}
	mustCell(t, s, "a", 2, 1)
}

// P12.1: Merge.

// Unlike sketches are ErrArg, whether a sum would be beyond an end or not.
func TestMergeOfUnlikeSketches(t *testing.T) {
	for _, number := range []int{0, 1, maxCount, -maxCount} {
		of := func(seed uint64, rows, cols int) Sketch { return all(seed, rows, cols, number) }
		list := []Sketch{
			of(1, 3, 8), of(2, 3, 8), of(api.P+1, 3, 8), of(0, 3, 8), of(1<<63+1, 3, 8), of(1<<32+1, 3, 8),
			of(1, 1, 8), of(1, 5, 8), of(1, 7, 8),
			of(1, 3, 7), of(1, 3, 9), of(1, 3, 1), of(1, 3, 256), of(1, 7, 3), of(1, 5, 5), of(1, 1, 24), of(1, 1, 1),
		}
		for i, a := range list {
			for _, b := range list[i+1:] {
				mustNotMerge(t, a, b, api.ErrArg)
				mustNotMerge(t, a, noughts(b.Seed, len(b.Rows), len(b.Rows[0])), api.ErrArg)
			}
		}
	}
}

func TestMerge(t *testing.T) {
	source := rand.New(rand.NewSource(22))
	told := map[api.Errno]int{}
	for _, seed := range seeds {
		for _, shape := range shapes {
			for _, most := range []int{0, 1, 255, maxCount / 2, maxCount} {
				a, b := drawn(source, seed, shape[0], shape[1], most), drawn(source, seed, shape[0], shape[1], most)
				keptA, keptB := apart(a), apart(b)
				full := false
				want := filled(seed, shape[0], shape[1], func(i, at int) int {
					sum := keptA.Rows[i][at] + keptB.Rows[i][at]
					full = full || beyond(sum)
					return sum
				})
				if full {
					mustNotMerge(t, a, b, api.ErrFull)
					told[api.ErrFull]++
					continue
				}
				m, turned := mustMerge(t, a, b), mustMerge(t, b, a)
				told[api.OK]++
				if !same(m, want) || !same(turned, want) {
					t.Fatalf("Merge(%v, %v) = %v, turned about %v, want %v", a, b, m, turned, want)
				}
				if !Right(m) {
					t.Fatalf("Merge(%v, %v) = %v, which is not right", a, b, m)
				}
				if !same(a, keptA) || !same(b, keptB) {
					t.Fatalf("%v, %v became %v, %v", keptA, keptB, a, b)
				}
			}
		}
	}
	if told[api.OK] == 0 || told[api.ErrFull] == 0 {
		t.Errorf("told: %v", told)
	}
}

// A sum in any one cell ends at an end, just ahead of it or beyond it.
func TestMergeAtEitherEnd(t *testing.T) {
	for _, rows := range rightRows {
		for _, cols := range []int{1, 2, 8} {
			for i := range rows {
				for at := range cols {
					for _, part := range []int{0, 1, 2, 300, maxCount - 1, maxCount} {
						for _, side := range []int{1, -1} {
							a, b, want := noughts(1, rows, cols), noughts(1, rows, cols), noughts(1, rows, cols)
							for _, ahead := range []int{0, 1, 2} {
								a.Rows[i][at], b.Rows[i][at] = side*part, side*(maxCount-part-ahead)
								want.Rows[i][at] = side * (maxCount - ahead)
								if m := mustMerge(t, a, b); !same(m, want) || !same(mustMerge(t, b, a), want) {
									t.Fatalf("Merge(%v, %v) = %v, want %v", a, b, m, want)
								}
							}
							if part > 0 {
								b.Rows[i][at] = side * (maxCount - part + 1)
								mustNotMerge(t, a, b, api.ErrFull)
								b.Rows[i][at] = side * maxCount
								mustNotMerge(t, a, b, api.ErrFull)
							}
						}
					}
				}
			}
		}
	}
}

// Sums that are beyond in one cell are not made good by others.
func TestMergeIsFullByAnyCell(t *testing.T) {
	for _, i := range []int{0, 1, 2} {
		for _, at := range []int{0, 3, 7} {
			a, b := all(1, 3, 8, maxCount), all(1, 3, 8, -maxCount)
			b.Rows[i][at] = 1
			mustNotMerge(t, a, b, api.ErrFull)
			a.Rows[i][at], b.Rows[i][at] = -1, -maxCount
			mustNotMerge(t, a, b, api.ErrFull)
			b.Rows[i][at] = 1
			if m := mustMerge(t, a, b); !same(m, noughts(1, 3, 8)) {
				t.Fatalf("Merge(%v, %v) = %v", a, b, m)
			}
		}
	}
}

func TestMergeWithItselfAndANewOne(t *testing.T) {
	for _, s := range rightSketches() {
		before, rows, cols := apart(s), len(s.Rows), len(s.Rows[0])
		empty := mustNew(t, s.Seed, rows, cols)
		for _, m := range []Sketch{mustMerge(t, s, empty), mustMerge(t, empty, s)} {
			if !same(m, before) {
				t.Fatalf("%v with a new one is %v", before, m)
			}
		}
		full := false
		double := filled(s.Seed, rows, cols, func(i, at int) int {
			full = full || beyond(2*before.Rows[i][at])
			return 2 * before.Rows[i][at]
		})
		if full {
			mustNotMerge(t, s, s, api.ErrFull)
			mustNotMerge(t, s, before, api.ErrFull)
		} else if m := mustMerge(t, s, s); !same(m, double) || !same(mustMerge(t, s, before), double) {
			t.Fatalf("%v with itself is %v", before, m)
		}
		if !same(s, before) || !same(empty, noughts(s.Seed, rows, cols)) {
			t.Fatalf("%v and a new one became %v and %v", before, s, empty)
		}
	}
}

func TestMergeKeepsToItsOwnMemory(t *testing.T) {
	a, b := all(1, 3, 8, 255), all(1, 3, 8, -3)
	for i := range 3 {
		a.Rows[i], b.Rows[i] = a.Rows[i][:4], b.Rows[i][:4]
	}
	firstA, firstB := &a.Rows[0][0], &b.Rows[0][0]
	keptA, keptB, empty := apart(a), apart(b), noughts(1, 3, 4)
	for _, m := range []Sketch{mustMerge(t, a, b), mustMerge(t, b, a), mustMerge(t, a, a), mustMerge(t, b, b), mustMerge(t, a, empty), mustMerge(t, empty, b)} {
		kept := apart(m)
		mustMerge(t, m, a)
		mustMerge(t, a, m)
		if !same(m, kept) {
			t.Errorf("%v became %v", kept, m)
		}
		for i := range m.Rows {
			for at := range m.Rows[i] {
				m.Rows[i][at] = 77
			}
			m.Rows[i] = nil
		}
		if !same(a, keptA) || !same(b, keptB) || !same(empty, noughts(1, 3, 4)) || &a.Rows[0][0] != firstA || &b.Rows[0][0] != firstB {
			t.Fatalf("%v, %v became %v, %v", keptA, keptB, a, b)
		}
	}
	if a.Rows[1][:8][4] != 255 || b.Rows[1][:8][4] != -3 {
		t.Error("the room behind a row was written into")
	}
}

// The chapter's example.

func TestExample(t *testing.T) {
	s := mustNew(t, 1, 3, 8)
	mustGet(t, mustAdd(t, mustAdd(t, s, "a", 5), "a", -2), "a", 3)
	mustGet(t, mustAdd(t, mustAdd(t, s, "a", -2), "a", 5), "a", 3)
	mustGet(t, mustAdd(t, s, "a", 5), "a", 5)
	mustGet(t, mustAdd(t, s, "a", -2), "a", -2)
	mustGet(t, s, "a", 0)
}

// P12.2.

// coming is a key that comes, with how many.
type coming struct {
	key string
	n   int
}

// someComing are keys that come, some of them more than once, with numbers up to most and down to -most.
func someComing(source *rand.Rand, count, most int) []coming {
	var list []coming
	some := keys()
	for range count {
		list = append(list, coming{some[source.Intn(len(some))], source.Intn(2*most+1) - most})
	}
	return list
}

func withAll(t *testing.T, s Sketch, list []coming) Sketch {
	t.Helper()
	for _, c := range list {
		s = mustAdd(t, s, c.key, c.n)
	}
	return s
}

func TestTheOrderDoesNotMatter(t *testing.T) {
	source := rand.New(rand.NewSource(23))
	for _, seed := range seeds {
		for _, shape := range shapes {
			for _, most := range []int{1, 300, maxCount / 24} {
				list := someComing(source, 24, most)
				empty := mustNew(t, seed, shape[0], shape[1])
				want := withAll(t, empty, list)
				for range 3 {
					source.Shuffle(len(list), func(i, j int) { list[i], list[j] = list[j], list[i] })
					if got := withAll(t, empty, list); !same(got, want) {
						t.Fatalf("in another order: %v, not %v", got, want)
					}
				}
			}
		}
	}
}

// All of a number at once is the same as one part behind another.
func TestPartsOfANumber(t *testing.T) {
	for _, shape := range shapes {
		s := mustNew(t, 5, shape[0], shape[1])
		for _, n := range rightN {
			if once, parts := mustAdd(t, s, "k", n), mustAdd(t, mustAdd(t, s, "k", n/3), "k", n-n/3); !same(once, parts) {
				t.Fatalf("%d at once: %v, in parts: %v", n, once, parts)
			}
		}
	}
}

func TestMergedIsAllAdded(t *testing.T) {
	source := rand.New(rand.NewSource(24))
	for _, seed := range seeds {
		for _, shape := range shapes {
			for _, most := range []int{1, 500, maxCount / 16} {
				list := someComing(source, 16, most)
				empty := mustNew(t, seed, shape[0], shape[1])
				want := withAll(t, empty, list)
				for _, at := range []int{0, 1, 7, len(list) - 1, len(list)} {
					if m := mustMerge(t, withAll(t, empty, list[:at]), withAll(t, empty, list[at:])); !same(m, want) {
						t.Fatalf("merged at %d: %v, not %v", at, m, want)
					}
				}
			}
		}
	}
}

// What is added and taken away, in any order, leaves what was there.
func TestAddedAndTakenAwayIsNothing(t *testing.T) {
	source := rand.New(rand.NewSource(25))
	for _, seed := range seeds {
		for _, shape := range shapes {
			began := withAll(t, mustNew(t, seed, shape[0], shape[1]), someComing(source, 8, 100))
			list := someComing(source, 10, maxCount/20)
			for _, c := range slices.Clone(list) {
				list = append(list, coming{c.key, -c.n})
			}
			for range 3 {
				if got := withAll(t, began, list); !same(got, began) {
					t.Fatalf("added and taken away: %v, not %v", got, began)
				}
				source.Shuffle(len(list), func(i, j int) { list[i], list[j] = list[j], list[i] })
			}
		}
	}
	for _, shape := range shapes {
		empty := mustNew(t, 1, shape[0], shape[1])
		for _, n := range rightN {
			for _, key := range keys() {
				if got := mustAdd(t, mustAdd(t, empty, key, n), key, -n); !same(got, empty) {
					t.Fatalf("%d of %q and as many away: %v", n, key, got)
				}
				if got := mustMerge(t, mustAdd(t, empty, key, n), mustAdd(t, empty, key, -n)); !same(got, empty) {
					t.Fatalf("%d of %q merged with as many away: %v", n, key, got)
				}
			}
		}
	}
}

// alone is in how many rows a key shares its cell with none of the others.
func alone(s Sketch, key string, others []string) int {
	count := 0
	for i := range s.Rows {
		at, shared := Cell(s, key, i), false
		for _, other := range others {
			shared = shared || other != key && Cell(s, other, i) == at
		}
		if !shared {
			count++
		}
	}
	return count
}

func TestKeysWithCellsOfTheirOwnAreTold(t *testing.T) {
	told := map[string]int{}
	for _, seed := range []uint64{0, 1, 5, 7, math.MaxUint64} {
		for _, rows := range rightRows {
			for _, cols := range []int{8, 32, 256} {
				source := rand.New(rand.NewSource(int64(rows * cols)))
				s := mustNew(t, seed, rows, cols)
				some, came := keys(), map[string]int{}
				for _, c := range someComing(source, 40, maxCount/40) {
					s = mustAdd(t, s, c.key, c.n)
					came[c.key] += c.n
				}
				for _, key := range some {
					count := alone(s, key, some)
					if 2*count <= rows {
						told["shared"]++
						continue
					}
					mustGet(t, s, key, came[key])
					if count == rows {
						told["alone"]++
					} else {
						told["by half"]++
					}
				}
			}
		}
	}
	if told["shared"] == 0 || told["alone"] == 0 || told["by half"] == 0 {
		t.Errorf("keys held: %v", told)
	}
}

// A key that is alone in most rows is told right, whatever stands in the others.
func TestKeysAreToldWhateverTheOthersHave(t *testing.T) {
	for _, rows := range rightRows {
		for _, n := range rightN {
			for _, number := range []int{-maxCount, -7, 7, maxCount} {
				numbers := make([]int, rows)
				for i := range numbers {
					numbers[i] = n
				}
				for i := 1; i < rows; i += 2 {
					numbers[i] = number
				}
				mustGet(t, withNumbers(numbers, number), "a", n)
			}
		}
	}
}
