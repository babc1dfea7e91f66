package solve

import (
	"math"
	"math/big"
	"math/rand"
	"slices"
	"testing"

	"rillmeter/api"
)

var prime = big.NewInt(api.P)

func wide(n uint64) *big.Int { return new(big.Int).SetUint64(n) }

// plainTimes reckons with numbers of any size, and modulo P at the end alone.
func plainTimes(rows [][]uint64, x []uint64) []uint64 {
	var sums []uint64
	for _, row := range rows {
		sum := new(big.Int)
		for j, number := range row {
			sum.Add(sum, new(big.Int).Mul(wide(number), wide(x[j])))
		}
		sums = append(sums, sum.Mod(sum, prime).Uint64())
	}
	return sums
}

// determinant is reckoned along the first row: without any division, unlike what is tested.
func determinant(square [][]uint64) *big.Int {
	if len(square) == 0 {
		return big.NewInt(1)
	}
	sum := new(big.Int)
	for j, number := range square[0] {
		term := determinant(without(square[1:], j))
		term.Mul(term, wide(number))
		if j%2 == 1 {
			term.Neg(term)
		}
		sum.Add(sum, term)
	}
	return sum.Mod(sum, prime)
}

func without(rows [][]uint64, column int) [][]uint64 {
	var list [][]uint64
	for _, row := range rows {
		list = append(list, slices.Concat(row[:column], row[column+1:]))
	}
	return list
}

// plainRank is the size of the greatest square within the rows and columns whose determinant is not 0.
func plainRank(rows [][]uint64, columns int) int {
	best := 0
	for some := range 1 << len(rows) {
		for others := range 1 << columns {
			var square [][]uint64
			for _, i := range ones(some) {
				var line []uint64
				for _, j := range ones(others) {
					line = append(line, rows[i][j])
				}
				square = append(square, line)
			}
			if size := len(ones(some)); size == len(ones(others)) && size > best && determinant(square).Sign() != 0 {
				best = size
			}
		}
	}
	return best
}

// ones are the places of the bits of n that are 1.
func ones(n int) []int {
	var list []int
	for i := 0; n>>i > 0; i++ {
		if n>>i&1 == 1 {
			list = append(list, i)
		}
	}
	return list
}

func beside(rows [][]uint64, right []uint64) [][]uint64 {
	var list [][]uint64
	for i, row := range rows {
		list = append(list, slices.Concat(row, right[i:i+1]))
	}
	return list
}

func cloned(rows [][]uint64) [][]uint64 {
	list := slices.Clone(rows)
	for i := range list {
		list[i] = slices.Clone(list[i])
	}
	return list
}

// filled are rows of numbers of any size.
func filled(source *rand.Rand, rows int, columns int) [][]uint64 {
	list := make([][]uint64, rows)
	for i := range list {
		list[i] = numbers(source, columns)
	}
	return list
}

func numbers(source *rand.Rand, n int) []uint64 {
	list := make([]uint64, n)
	for i := range list {
		list[i] = source.Uint64()
	}
	return list
}

// fewKinds are rows of numbers that often depend on each other, many of them 0 modulo P.
func fewKinds(source *rand.Rand, rows int, columns int) [][]uint64 {
	kinds := []uint64{0, 0, 0, 1, 1, 2, api.P - 1, api.P, api.P + 1, 2*api.P - 1, 8 * api.P, math.MaxUint64}
	list := filled(source, rows, columns)
	for _, row := range list {
		for j := range row {
			row[j] = kinds[row[j]%uint64(len(kinds))]
		}
	}
	return list
}

// ofRank are rows whose rank is known: a product of rows with ones on their slope, with nothing above, and of columns likewise.
func ofRank(source *rand.Rand, rank int, rows int, columns int) [][]uint64 {
	left, above := filled(source, rows, rank), filled(source, rank, columns)
	for i := range rank {
		for j := range rank {
			if j > i {
				left[i][j] = 0
			}
			if j < i {
				above[i][j] = 0
			}
		}
		left[i][i], above[i][i] = 1, 1
	}
	list := make([][]uint64, rows)
	for i := range list {
		for j := range columns {
			var column []uint64
			for k := range rank {
				column = append(column, above[k][j])
			}
			list[i] = append(list[i], plainTimes(left[i:i+1], column)...)
		}
	}
	source.Shuffle(rows, func(i, j int) { list[i], list[j] = list[j], list[i] })
	return list
}

func expectRank(t *testing.T, rows [][]uint64, want int, e api.Errno) {
	t.Helper()
	if got, err := Rank(rows); got != want || err != e {
		t.Errorf("Rank of %d rows %v: %d, %d, want %d, %d", len(rows), rows, got, err, want, e)
	}
}

func expectSolve(t *testing.T, rows [][]uint64, right []uint64, want []uint64, e api.Errno) {
	t.Helper()
	if got, err := Solve(rows, right); !slices.Equal(got, want) || err != e {
		t.Errorf("Solve of %d rows %v, right %v: %v, %d, want %v, %d", len(rows), rows, right, got, err, want, e)
	}
}

func expectTimes(t *testing.T, rows [][]uint64, x []uint64, want []uint64, e api.Errno) {
	t.Helper()
	if got, err := Times(rows, x); !slices.Equal(got, want) || err != e {
		t.Errorf("Times of %d rows %v, x %v: %v, %d, want %v, %d", len(rows), rows, x, got, err, want, e)
	}
}

// unlike are rows that make no system.
func unlike() [][][]uint64 {
	long := make([]uint64, api.MaxSize+1)
	return [][][]uint64{
		{{1}, {1, 2}},
		{{1, 2}, {1}},
		{{1, 2}, {3, 4}, {5}},
		{{1, 2}, {3, 4}, {5, 6, 7}},
		{{1, 2}, {3}, {5, 6}},
		{nil, {1}},
		{{1}, nil},
		{{}, {}, {0}},
		{long},
		{{1}, long},
		{long, long},
		make([][]uint64, api.MaxSize+1),
		make([][]uint64, 1000),
		filled(rand.New(rand.NewSource(1)), api.MaxSize+1, 1),
		filled(rand.New(rand.NewSource(1)), api.MaxSize+1, api.MaxSize+1),
		filled(rand.New(rand.NewSource(1)), 1, 1000),
	}
}

// P3.1

func TestRankOfSystems(t *testing.T) {
	for _, c := range []struct {
		rows [][]uint64
		want int
	}{
		{[][]uint64{{1, 1}, {1, api.P - 1}}, 2},
		{[][]uint64{{1, 1}, {2, 2}}, 1},
		{[][]uint64{{1, 2, 3}, {4, 5, 6}, {5, 7, 9}}, 2},
		{[][]uint64{{0}}, 0},
		{[][]uint64{{api.P}}, 0},
		{[][]uint64{{8 * api.P, 0}, {0, 3 * api.P}}, 0},
		{[][]uint64{{api.P + 1}}, 1},
		{[][]uint64{{math.MaxUint64}}, 1},
		{[][]uint64{{0, 0, 5}}, 1},
		{[][]uint64{{0}, {0}, {7}}, 1},
		// Unlike as numbers, alike modulo P.
		{[][]uint64{{1, 2}, {api.P + 1, 2*api.P + 2}}, 1},
		// A multiple by more than 2^61: 2^60 times 2 is 1.
		{[][]uint64{{1 << 60, 1}, {1, 2}}, 1},
		{[][]uint64{{1 << 60, 1}, {1, 3}}, 2},
		// No row leads by the first column, and they must change places.
		{[][]uint64{{0, 0, 0, 1}, {0, 1, 0, 0}, {0, 0, 1, 0}}, 3},
		{[][]uint64{{0, 1, 1}, {0, 1, 1}, {0, 0, 1}, {0, 2, 1}}, 2},
	} {
		expectRank(t, c.rows, c.want, api.OK)
	}
}

func TestRankOfNothing(t *testing.T) {
	expectRank(t, nil, 0, api.OK)
	expectRank(t, [][]uint64{}, 0, api.OK)
	expectRank(t, [][]uint64{{}}, 0, api.OK)
	expectRank(t, [][]uint64{nil, {}, nil}, 0, api.OK)
	expectRank(t, make([][]uint64, api.MaxSize), 0, api.OK)
}

func TestRankOfSmallRows(t *testing.T) {
	source := rand.New(rand.NewSource(31))
	seen := [5]int{}
	for range 2000 {
		rows, columns := 1+source.Intn(4), source.Intn(5)
		list := fewKinds(source, rows, columns)
		want := plainRank(list, columns)
		seen[want]++
		expectRank(t, list, want, api.OK)
	}
	for rank, count := range seen {
		if count < 20 {
			t.Errorf("only %d systems of the rank %d", count, rank)
		}
	}
}

func TestRankOfGreatRows(t *testing.T) {
	source := rand.New(rand.NewSource(32))
	for _, c := range []struct{ rank, rows, columns int }{
		{api.MaxSize, api.MaxSize, api.MaxSize},
		{api.MaxSize - 1, api.MaxSize, api.MaxSize},
		{17, api.MaxSize, api.MaxSize},
		{1, api.MaxSize, api.MaxSize},
		{0, api.MaxSize, api.MaxSize},
		{5, 5, api.MaxSize},
		{4, 5, api.MaxSize},
		{5, api.MaxSize, 5},
		{4, api.MaxSize, 5},
		{1, 1, api.MaxSize},
		{1, api.MaxSize, 1},
	} {
		expectRank(t, ofRank(source, c.rank, c.rows, c.columns), c.rank, api.OK)
	}
}

func TestRankOfNoSystem(t *testing.T) {
	for _, rows := range unlike() {
		expectRank(t, rows, 0, api.ErrArg)
	}
}

func TestTimesOfSystems(t *testing.T) {
	expectTimes(t, [][]uint64{{1, 2}, {3, 4}}, []uint64{5, 6}, []uint64{17, 39}, api.OK)
	expectTimes(t, [][]uint64{{1, 1}, {1, api.P - 1}}, []uint64{3, 2}, []uint64{5, 1}, api.OK)
	expectTimes(t, [][]uint64{{api.P - 1}}, []uint64{api.P - 1}, []uint64{1}, api.OK)
	expectTimes(t, [][]uint64{{api.P, api.P + 1}}, []uint64{9, 2*api.P + 3}, []uint64{3}, api.OK)
	expectTimes(t, [][]uint64{{math.MaxUint64, 1 << 61}}, []uint64{math.MaxUint64, 1 << 62}, []uint64{51}, api.OK)
	source := rand.New(rand.NewSource(33))
	for range 300 {
		rows, columns := 1+source.Intn(api.MaxSize), source.Intn(api.MaxSize+1)
		list, x := filled(source, rows, columns), numbers(source, columns)
		expectTimes(t, list, x, plainTimes(list, x), api.OK)
	}
	list, x := filled(source, api.MaxSize, api.MaxSize), numbers(source, api.MaxSize)
	expectTimes(t, list, x, plainTimes(list, x), api.OK)
}

// Without rows there is none that x could be longer or shorter than.
func TestTimesOfNothing(t *testing.T) {
	expectTimes(t, nil, nil, nil, api.OK)
	expectTimes(t, [][]uint64{}, []uint64{}, nil, api.OK)
	expectTimes(t, nil, []uint64{1, 2, 3}, nil, api.OK)
	expectTimes(t, nil, make([]uint64, 1000), nil, api.OK)
	expectTimes(t, [][]uint64{{}, nil}, nil, []uint64{0, 0}, api.OK)
	expectTimes(t, make([][]uint64, api.MaxSize), nil, make([]uint64, api.MaxSize), api.OK)
}

func TestTimesOfNoSystem(t *testing.T) {
	for _, rows := range unlike() {
		for _, row := range rows[:min(2, len(rows))] {
			expectTimes(t, rows, make([]uint64, len(row)), nil, api.ErrArg)
		}
		expectTimes(t, rows, nil, nil, api.ErrArg)
	}
}

func TestTimesOfAnotherLength(t *testing.T) {
	expectTimes(t, [][]uint64{{1, 2}, {3, 4}}, []uint64{5}, nil, api.ErrArg)
	expectTimes(t, [][]uint64{{1, 2}, {3, 4}}, []uint64{5, 6, 7}, nil, api.ErrArg)
	expectTimes(t, [][]uint64{{1, 2}, {3, 4}}, nil, nil, api.ErrArg)
	expectTimes(t, [][]uint64{{}}, []uint64{0}, nil, api.ErrArg)
	// As long as there are rows, but not as a row.
	expectTimes(t, [][]uint64{{1, 2}, {3, 4}, {5, 6}}, []uint64{1, 2, 3}, nil, api.ErrArg)
}

// P3.2

func TestSolveOfSystems(t *testing.T) {
	for _, c := range []struct {
		rows  [][]uint64
		right []uint64
		want  []uint64
		e     api.Errno
	}{
		{[][]uint64{{1, 1}, {1, api.P - 1}}, []uint64{5, 1}, []uint64{3, 2}, api.OK},
		{[][]uint64{{1, 1}, {2, 2}}, []uint64{1, 2}, nil, api.ErrRank},
		{[][]uint64{{1, 1}, {2, 2}}, []uint64{1, 3}, nil, api.ErrNone},
		{[][]uint64{{1, 1, 0}, {0, 1, 1}, {1, 0, 1}, {1, 1, 1}}, []uint64{3, 5, 4, 6}, []uint64{1, 2, 3}, api.OK},
		{[][]uint64{{1, 1, 0}, {0, 1, 1}, {1, 0, 1}, {1, 1, 1}}, []uint64{3, 5, 4, 7}, nil, api.ErrNone},
		{[][]uint64{{2}}, []uint64{1}, []uint64{1 << 60}, api.OK},
		{[][]uint64{{api.P + 2}}, []uint64{math.MaxUint64 - 1}, []uint64{3}, api.OK},
		{[][]uint64{{5}}, []uint64{3 * api.P}, []uint64{0}, api.OK},
		{[][]uint64{{0}}, []uint64{0}, nil, api.ErrRank},
		{[][]uint64{{api.P}}, []uint64{8 * api.P}, nil, api.ErrRank},
		{[][]uint64{{api.P}}, []uint64{1}, nil, api.ErrNone},
		{[][]uint64{{0, 1}, {1, 0}}, []uint64{7, 9}, []uint64{9, 7}, api.OK},
		{[][]uint64{{0, 0, 1}, {1, 0, 0}, {0, 1, 0}}, []uint64{1, 2, 3}, []uint64{2, 3, 1}, api.OK},
		// Fewer rows than columns.
		{[][]uint64{{1, 1}}, []uint64{1}, nil, api.ErrRank},
		{[][]uint64{{0, 0}}, []uint64{1}, nil, api.ErrNone},
		{[][]uint64{{0, 1, 0}, {0, 0, 1}}, []uint64{1, 1}, nil, api.ErrRank},
		// Neither all columns found nor any solution: none is told of.
		{[][]uint64{{0, 1, 1}, {0, 2, 2}, {0, 3, 3}}, []uint64{1, 2, 4}, nil, api.ErrNone},
		// More rows than columns.
		{[][]uint64{{1}, {2}, {3}}, []uint64{4, 8, 12}, []uint64{4}, api.OK},
		{[][]uint64{{1}, {2}, {3}}, []uint64{4, 8, 13}, nil, api.ErrNone},
		{[][]uint64{{0}, {0}, {3}}, []uint64{0, api.P, 6}, []uint64{2}, api.OK},
		{[][]uint64{{0}, {0}, {3}}, []uint64{0, 1, 6}, nil, api.ErrNone},
	} {
		expectSolve(t, c.rows, c.right, c.want, c.e)
	}
}

func TestSolveOfNothing(t *testing.T) {
	expectSolve(t, nil, nil, nil, api.OK)
	expectSolve(t, [][]uint64{}, []uint64{}, nil, api.OK)
	expectSolve(t, nil, []uint64{0}, nil, api.ErrArg)
	expectSolve(t, nil, []uint64{1, 2}, nil, api.ErrArg)
}

// Rows without columns have the empty solution, if all that they could make, 0, is on their right.
func TestSolveWithoutColumns(t *testing.T) {
	expectSolve(t, [][]uint64{{}}, []uint64{0}, nil, api.OK)
	expectSolve(t, [][]uint64{nil, {}}, []uint64{0, api.P}, nil, api.OK)
	expectSolve(t, make([][]uint64, api.MaxSize), make([]uint64, api.MaxSize), nil, api.OK)
	expectSolve(t, [][]uint64{{}}, []uint64{1}, nil, api.ErrNone)
	expectSolve(t, [][]uint64{{}, {}}, []uint64{0, 5}, nil, api.ErrNone)
	expectSolve(t, [][]uint64{{}, {}}, []uint64{0}, nil, api.ErrArg)
}

func TestSolveOfNoSystem(t *testing.T) {
	for _, rows := range unlike() {
		expectSolve(t, rows, make([]uint64, len(rows)), nil, api.ErrArg)
		expectSolve(t, rows, nil, nil, api.ErrArg)
	}
}

func TestSolveOfARightOfAnotherLength(t *testing.T) {
	rows := [][]uint64{{1, 0, 0}, {0, 1, 0}}
	for _, n := range []int{0, 1, 3, 4, api.MaxSize, 1000} {
		expectSolve(t, rows, make([]uint64, n), nil, api.ErrArg)
	}
	expectSolve(t, [][]uint64{{1}}, nil, nil, api.ErrArg)
	expectSolve(t, [][]uint64{{1}}, []uint64{1, 1}, nil, api.ErrArg)
}

func TestSolveOfSmallSystems(t *testing.T) {
	source := rand.New(rand.NewSource(34))
	seen := map[api.Errno]int{}
	for range 3000 {
		rows, columns := 1+source.Intn(4), source.Intn(4)
		list := fewKinds(source, rows, columns)
		right := fewKinds(source, 1, rows)[0]
		rank := plainRank(list, columns)
		want := api.OK
		switch {
		case plainRank(beside(list, right), columns+1) > rank:
			want = api.ErrNone
		case rank < columns:
			want = api.ErrRank
		}
		seen[want]++
		x, e := Solve(list, right)
		if e != want {
			t.Fatalf("Solve of %v, right %v: %v, %d, want %d", list, right, x, e, want)
		}
		if e == api.OK {
			expectSolution(t, list, right, x)
		} else if len(x) != 0 {
			t.Fatalf("Solve of %v, right %v: %v beside %d", list, right, x, e)
		}
	}
	for _, e := range []api.Errno{api.OK, api.ErrNone, api.ErrRank} {
		if seen[e] < 100 {
			t.Errorf("only %d systems of %d", seen[e], e)
		}
	}
}

// P3.3

// expectSolution holds that x is a solution, of numbers below P.
func expectSolution(t *testing.T, rows [][]uint64, right []uint64, x []uint64) {
	t.Helper()
	if len(rows) > 0 && len(x) != len(rows[0]) {
		t.Fatalf("%d columns, a solution of %d", len(rows[0]), len(x))
	}
	for i, sum := range plainTimes(rows, x) {
		if sum != right[i]%api.P {
			t.Fatalf("the row %d of %v, with %v, makes %d, not %d", i, rows, x, sum, right[i])
		}
	}
	for _, number := range x {
		if number >= api.P {
			t.Fatalf("a solution of %d", number)
		}
	}
}

func TestWhatASolutionMakesIsSolvedToItAgain(t *testing.T) {
	source := rand.New(rand.NewSource(35))
	for rows := range api.MaxSize + 1 {
		for _, columns := range []int{0, 1, rows / 2, rows - 1, rows} {
			if columns < 0 || columns > rows {
				continue
			}
			list, x := ofRank(source, columns, rows, columns), numbers(source, columns)
			right, e := Times(list, x)
			if e != api.OK {
				t.Fatalf("Times: %d", e)
			}
			for i := range x {
				x[i] %= api.P
			}
			if rows == 0 {
				x = nil
			}
			expectSolve(t, list, right, x, api.OK)
		}
	}
}

func TestSolveOfGreatSystemsBelowTheirColumns(t *testing.T) {
	source := rand.New(rand.NewSource(36))
	for _, c := range []struct{ rank, rows, columns int }{
		{api.MaxSize - 1, api.MaxSize, api.MaxSize}, {api.MaxSize - 1, api.MaxSize - 1, api.MaxSize},
		{3, api.MaxSize, 4}, {0, api.MaxSize, api.MaxSize}, {1, 1, api.MaxSize},
	} {
		list := ofRank(source, c.rank, c.rows, c.columns)
		right := plainTimes(list, numbers(source, c.columns))
		expectSolve(t, list, right, nil, api.ErrRank)
	}
}

func TestSolveOfGreatSystemsWithARowThatContradicts(t *testing.T) {
	source := rand.New(rand.NewSource(37))
	for _, rank := range []int{0, 1, 5, api.MaxSize - 1} {
		for _, columns := range []int{rank, rank + 1} {
			list := ofRank(source, rank, api.MaxSize, columns)
			right := plainTimes(list, numbers(source, columns))
			// The first row is the last one's twin, but for what is on its right.
			list[api.MaxSize-1] = slices.Clone(list[0])
			right[api.MaxSize-1] = right[0] + 1
			expectSolve(t, list, right, nil, api.ErrNone)
		}
	}
}

// R1

func TestWhatIsHandedInStays(t *testing.T) {
	source := rand.New(rand.NewSource(38))
	rows, right := filled(source, 6, 6), numbers(source, 6)
	oldRows, oldRight := cloned(rows), slices.Clone(right)
	Rank(rows)
	x, _ := Solve(rows, right)
	y, _ := Times(rows, right)
	again, _ := Solve(rows, right)
	clear(again)
	clear(y)
	for i := range rows {
		if !slices.Equal(rows[i], oldRows[i]) || right[i] != oldRight[i] {
			t.Fatalf("the row %d: %v and %d, but %v and %d were handed in", i, rows[i], right[i], oldRows[i], oldRight[i])
		}
	}
	expectSolution(t, rows, right, x)
}

// Rows may share memory with each other, and with what lies behind them.
func TestRowsThatShareMemory(t *testing.T) {
	all := []uint64{1, 2, 3, 4, 5}
	rows := [][]uint64{all[0:2], all[1:3], all[3:5]}
	expectRank(t, rows, 2, api.OK)
	expectSolve(t, rows, []uint64{3, 5, 9}, []uint64{1, 1}, api.OK)
	expectTimes(t, rows, all[0:2], []uint64{5, 8, 14}, api.OK)
	same := []uint64{1, 2}
	expectRank(t, [][]uint64{same, same}, 1, api.OK)
	expectSolve(t, [][]uint64{same, {0, 1}}, same, []uint64{api.P - 3, 2}, api.OK)
	if !slices.Equal(all, []uint64{1, 2, 3, 4, 5}) || !slices.Equal(same, []uint64{1, 2}) {
		t.Errorf("what was handed in became %v and %v", all, same)
	}
}
