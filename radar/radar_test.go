package radar

import (
	"fmt"
	"math"
	"math/rand"
	"reflect"
	"slices"
	"strings"
	"testing"

	"rillmeter/api"
	"rillmeter/bloom"
	"rillmeter/hash"
)

const maxCount = 1 << 40

var (
	rightBits   = []int{1, 2, 64, 255, 256}
	wrongBits   = []int{math.MinInt, math.MinInt32, -257, -256, -2, -1, 0, 257, 258, 512, 1<<32 + 1, math.MaxInt}
	rightHashes = []int{1, 2, 3, 4, 5, 6, 7}
	wrongHashes = []int{math.MinInt, math.MinInt32, -8, -7, -2, -1, 0, 8, 9, 16, 256, 1<<32 + 1, math.MaxInt}
	rightRows   = []int{1, 2, 3, 4, 5, 6, 7}
	wrongRows   = []int{math.MinInt, math.MinInt32, -8, -7, -2, -1, 0, 8, 9, 16, 256, 1<<32 + 1, math.MaxInt}
	rightCols   = []int{1, 2, 8, 255, 256}
	wrongCols   = []int{math.MinInt, math.MinInt32, -257, -256, -2, -1, 0, 257, 258, 512, 1<<32 + 1, math.MaxInt}
	// Some seeds differ by the prime alone: their keys have the same places. Of the last one the Row 0 is 0.
	seeds = []uint64{0, 1, 2, 7, api.P - 3, api.P - 1, api.P, api.P + 1, 1 << 61, 1 << 63, math.MaxUint64 - 2, math.MaxUint64, 1152921504606846970}
	// wrongNumbers are neither packets nor bytes, and but for some below 0 no flows.
	wrongNumbers = []int{math.MinInt, math.MinInt + 1, -maxCount - 1, maxCount + 1, maxCount + 2, 2 * maxCount, math.MaxInt}
	// wrongKeys have not 37 bytes.
	wrongKeys = []string{"", "a", strings.Repeat("\x00", 36), strings.Repeat("a", 36), strings.Repeat("\x00", 38), strings.Repeat("a", 38), strings.Repeat("é", 37), strings.Repeat("a", 74), strings.Repeat("a", 1000)}
	nought    = string(make([]byte, 37))
)

// numbered is a key of 37 bytes.
func numbered(n int) string { return fmt.Sprintf("%037d", n) }

// keys are of noughts, of ones and of anything.
func keys() []string {
	source := rand.New(rand.NewSource(60))
	list := []string{nought, strings.Repeat("\xff", 37), "\x01" + nought[1:], nought[1:] + "\x01", strings.Repeat("é", 18) + "e", numbered(0), numbered(1)}
	for range 12 {
		some := make([]byte, 37)
		source.Read(some)
		list = append(list, string(some))
	}
	return list
}

// shape is what New is given.
type shape struct {
	seed                     uint64
	bits, hashes, rows, cols int
}

// shapes are of the edges and of the middle.
func shapes() []shape {
	return []shape{
		{1, 1, 1, 1, 1}, {1, 64, 2, 2, 8}, {0, 256, 7, 7, 256}, {7, 256, 5, 5, 32}, {api.P, 8, 1, 1, 256}, {math.MaxUint64, 256, 3, 7, 1},
		{2, 255, 6, 3, 5}, {1 << 63, 2, 7, 2, 3}, {9, 100, 4, 4, 8}, {4, 256, 2, 1, 2}, {1152921504606846970, 128, 3, 3, 16},
	}
}

// bare is a new radar, laid by hand.
func bare(h shape) Radar {
	r := Radar{Seed: h.seed, Filter: bloom.Filter{Seed: hash.Row(h.seed, 0), Hashes: h.hashes, Bits: make([]bool, h.bits)}}
	for range h.rows {
		var row []Cell
		for range h.cols {
			row = append(row, Cell{Xor: nought})
		}
		r.Rows = append(r.Rows, row)
	}
	return r
}

// drawn is a radar of any cells, many of them at the ends, and many that are pure, or nearly so.
func drawn(source *rand.Rand, h shape) Radar {
	r := bare(h)
	list := keys()
	few := source.Intn(3) == 0
	for i := range r.Filter.Bits {
		r.Filter.Bits[i] = few && source.Intn(2) == 0 || !few
	}
	for _, row := range r.Rows {
		for at := range row {
			row[at] = Cell{
				Xor:     list[source.Intn(len(list))],
				Flows:   []int{-maxCount, 1 - maxCount, -2, -1, 0, 0, 1, 1, 1, 1, 1, 2, 2, 3, maxCount - 1, maxCount}[source.Intn(16)],
				Packets: []int{0, 0, 1, 2, 1000, maxCount - 2, maxCount - 1, maxCount}[source.Intn(8)],
				Bytes:   []int{0, 0, 1, 99, 1000, maxCount - 100, maxCount - 1, maxCount}[source.Intn(8)],
			}
		}
	}
	// One in three of the keys stands where it belongs, or is put into what stands there.
	for _, key := range list {
		for i := range r.Rows {
			switch c := cellOf(r, key, i); source.Intn(6) {
			case 0:
				c.Xor = key
			case 1:
				c.Xor = xor(c.Xor, key)
			}
		}
	}
	return r
}

// apart is a radar of the same, in memory of its own.
func apart(r Radar) Radar {
	o := r
	o.Filter.Bits, o.Rows = append([]bool(nil), r.Filter.Bits...), nil
	for _, row := range r.Rows {
		o.Rows = append(o.Rows, append([]Cell(nil), row...))
	}
	return o
}

// same: a list that is nil and one that is empty are the same.
func same(a, b Radar) bool {
	return a.Seed == b.Seed && a.Filter.Seed == b.Filter.Seed && a.Filter.Hashes == b.Filter.Hashes &&
		slices.Equal(a.Filter.Bits, b.Filter.Bits) && slices.EqualFunc(a.Rows, b.Rows, slices.Equal[[]Cell])
}

// scribble writes over all that a radar holds in lists, and over what lies behind these.
func scribble(r Radar) {
	bits := r.Filter.Bits[:cap(r.Filter.Bits)]
	for i := range bits {
		bits[i] = !bits[i]
	}
	for i := range r.Rows {
		row := r.Rows[i][:cap(r.Rows[i])]
		for at := range row {
			row[at] = Cell{"scribbled", -9, -9, -9}
		}
		r.Rows[i] = nil
	}
}

// xor is the one text put into the other one, bit by bit.
func xor(a, b string) string {
	var list []byte
	for i := range len(a) {
		one := byte(0)
		for bit := range 8 {
			if a[i]>>bit&1 != b[i]>>bit&1 {
				one |= 1 << bit
			}
		}
		list = append(list, one)
	}
	return string(list)
}

// plainPlace is the cell of a key by the words of the chapter.
func plainPlace(r Radar, key string, i int) int {
	return hash.Cell(hash.Row(r.Seed, i+1), key, len(r.Rows[i]))
}

func cellOf(r Radar, key string, i int) *Cell { return &r.Rows[i][plainPlace(r, key, i)] }

// filterPlaces are the places in the Filter by the words of layers 10 and 16.
func filterPlaces(r Radar, key string) []int {
	var list []int
	for i := range r.Filter.Hashes {
		list = append(list, hash.Cell(hash.Row(hash.Row(r.Seed, 0), i), key, len(r.Filter.Bits)))
	}
	return list
}

func plainHas(r Radar, key string) bool {
	for _, at := range filterPlaces(r, key) {
		if !r.Filter.Bits[at] {
			return false
		}
	}
	return true
}

// plainAdd is Add by the words of the chapter.
func plainAdd(r Radar, key string, bytes int) (Radar, api.Errno) {
	r = apart(r)
	had := plainHas(r, key)
	for i := range r.Rows {
		c := cellOf(r, key, i)
		if c.Packets+1 > maxCount || c.Bytes+bytes > maxCount || !had && c.Flows+1 > maxCount {
			return Radar{}, api.ErrFull
		}
		c.Packets++
		c.Bytes += bytes
		if !had {
			c.Flows++
			c.Xor = xor(c.Xor, key)
		}
	}
	for _, at := range filterPlaces(r, key) {
		r.Filter.Bits[at] = true
	}
	return r, api.OK
}

// plainRemove is Remove by the words of the chapter.
func plainRemove(r Radar, key string) Radar {
	r = apart(r)
	for i := range r.Rows {
		c := cellOf(r, key, i)
		c.Xor = xor(c.Xor, key)
		if c.Flows != -maxCount {
			c.Flows--
		}
	}
	return r
}

// plainPure is Pure by the words of the chapter.
func plainPure(r Radar, told []string) (string, bool) {
	for i, row := range r.Rows {
		for at, c := range row {
			if c.Flows != 1 || plainPlace(r, c.Xor, i) != at || !plainHas(r, c.Xor) {
				continue
			}
			was := false
			for _, key := range told {
				was = was || key == c.Xor
			}
			if !was {
				return c.Xor, true
			}
		}
	}
	return "", false
}

// plainPeel is Peel by the words of the chapter.
func plainPeel(r Radar) ([]string, Radar) {
	r = apart(r)
	var told []string
	for {
		key, ok := plainPure(r, told)
		if !ok {
			break
		}
		told = append(told, key)
		r = plainRemove(r, key)
	}
	sorted := []string{}
	for _, key := range told {
		at := 0
		for at < len(sorted) && sorted[at] < key {
			at++
		}
		sorted = slices.Insert(sorted, at, key)
	}
	return sorted, r
}

// plainEmpty is Empty by the words of the chapter.
func plainEmpty(r Radar) bool {
	for _, row := range r.Rows {
		for _, c := range row {
			if c.Flows != 0 || strings.Trim(c.Xor, "\x00") != "" {
				return false
			}
		}
	}
	return true
}

func mustNew(t *testing.T, h shape) Radar {
	t.Helper()
	r, err := New(h.seed, h.bits, h.hashes, h.rows, h.cols)
	if err != api.OK {
		t.Fatalf("New of %+v: error %d", h, err)
	}
	return r
}

// mustAdd holds that what is told is a right radar, and that the one that was given stays.
func mustAdd(t *testing.T, r Radar, key string, bytes int) Radar {
	t.Helper()
	before := apart(r)
	o, err := Add(r, key, bytes)
	if err != api.OK || !Right(o) {
		t.Fatalf("Add(%+v, %q, %d) = %+v, %d", r, key, bytes, o, err)
	}
	if !same(r, before) {
		t.Fatalf("Add of %q made %+v of %+v", key, r, before)
	}
	return o
}

// withAll is a radar to which keys came, each of as many bytes as come behind it in the row, and one.
func withAll(t *testing.T, r Radar, keys ...string) Radar {
	t.Helper()
	for i, key := range keys {
		r = mustAdd(t, r, key, len(keys)-i)
	}
	return r
}

// mustNotAdd holds that nothing but the error is told, and that what was given stays.
func mustNotAdd(t *testing.T, r Radar, key string, bytes int, want api.Errno) {
	t.Helper()
	before := apart(r)
	if o, err := Add(r, key, bytes); err != want || !reflect.DeepEqual(o, Radar{}) {
		t.Fatalf("Add(%+v, %q, %d) = %+v, %d, not the error %d alone", r, key, bytes, o, err, want)
	}
	if !same(r, before) {
		t.Fatalf("Add of %q made %+v of %+v", key, r, before)
	}
}

// mustRemove holds what is left, and that what was given stays.
func mustRemove(t *testing.T, r Radar, key string, want Radar) {
	t.Helper()
	before := apart(r)
	if got := Remove(r, key); !same(got, want) {
		t.Fatalf("Remove(%+v, %q) = %+v, want %+v", r, key, got, want)
	}
	if !same(r, before) {
		t.Fatalf("Remove of %q made %+v of %+v", key, r, before)
	}
}

// mustPure holds which key is told (none, if want is empty), and that what was given stays.
func mustPure(t *testing.T, r Radar, told []string, want string) {
	t.Helper()
	before, list := apart(r), slices.Clone(told)
	if got, ok := Pure(r, told); got != want || ok != (want != "") {
		t.Fatalf("Pure(%+v, %q) = %q, %t, want %q", r, told, got, ok, want)
	}
	if !same(r, before) || !slices.Equal(told, list) {
		t.Fatalf("Pure made %+v, %q of %+v, %q", r, told, before, list)
	}
}

// mustPeel holds what comes out and what is left, and that what was given stays.
func mustPeel(t *testing.T, r Radar, left Radar, want ...string) {
	t.Helper()
	before := apart(r)
	if got, rest := Peel(r); !slices.Equal(got, want) || !same(rest, left) {
		t.Fatalf("Peel(%+v) = %q, %+v, want %q, %+v", r, got, rest, want, left)
	}
	if !same(r, before) {
		t.Fatalf("Peel made %+v of %+v", r, before)
	}
}

func mustEmpty(t *testing.T, r Radar, want bool) {
	t.Helper()
	before := apart(r)
	if got := Empty(r); got != want || !same(r, before) {
		t.Fatalf("Empty(%+v) = %t, and %+v is left, want %t", before, got, r, want)
	}
}

// P16.1: New.

func TestNew(t *testing.T) {
	for _, seed := range seeds {
		for _, bits := range rightBits {
			for _, hashes := range []int{1, 2, 7} {
				for _, rows := range []int{1, 2, 7} {
					for _, cols := range []int{1, 8, 256} {
						h := shape{seed, bits, hashes, rows, cols}
						if r := mustNew(t, h); !same(r, bare(h)) || !Right(r) || !Empty(r) {
							t.Fatalf("New of %+v = %+v", h, r)
						}
					}
				}
			}
		}
	}
}

func TestNewOfEachNumber(t *testing.T) {
	hold := func(h shape) {
		t.Helper()
		want := h.bits >= 1 && h.bits <= 256 && h.hashes >= 1 && h.hashes <= 7 && h.rows >= 1 && h.rows <= 7 && h.cols >= 1 && h.cols <= 256
		r, err := New(h.seed, h.bits, h.hashes, h.rows, h.cols)
		if want && (err != api.OK || !same(r, bare(h))) {
			t.Fatalf("New of %+v = %+v, %d", h, r, err)
		}
		if !want && (err != api.ErrArg || !reflect.DeepEqual(r, Radar{})) {
			t.Fatalf("New of %+v = %+v, %d, not the error alone", h, r, err)
		}
	}
	for n := -300; n <= 600; n++ {
		for _, turned := range append(turns(shape{1, 1, 1, 1, 1}, n), turns(shape{1, 256, 7, 1, 256}, n)...) {
			hold(turned)
		}
	}
	for _, h := range shapes() {
		for _, list := range [][]int{wrongBits, wrongHashes, wrongRows, wrongCols, rightBits, rightHashes, rightRows, rightCols} {
			for _, n := range list {
				for _, turned := range turns(h, n) {
					hold(turned)
				}
			}
		}
	}
}

// turns are shapes in which one number is another one.
func turns(h shape, n int) []shape {
	list := []shape{h, h, h, h}
	list[0].bits = n
	list[1].hashes = n
	list[2].rows = n
	list[3].cols = n
	return list
}

func TestNewOfSeveralWrongNumbers(t *testing.T) {
	for _, bits := range []int{-1, 0, 1, 257} {
		for _, hashes := range []int{-1, 0, 1, 8} {
			for _, rows := range []int{-1, 0, 1, 8} {
				for _, cols := range []int{-1, 0, 1, 257} {
					r, err := New(1, bits, hashes, rows, cols)
					if bits == 1 && hashes == 1 && rows == 1 && cols == 1 {
						continue
					}
					if err != api.ErrArg || !reflect.DeepEqual(r, Radar{}) {
						t.Fatalf("New(1, %d, %d, %d, %d) = %+v, %d", bits, hashes, rows, cols, r, err)
					}
				}
			}
		}
	}
}

// The seed of the Filter is a row's, which none of the seeds is itself.
func TestNewFilter(t *testing.T) {
	for _, c := range []struct{ seed, want uint64 }{{0, 121}, {1, 169}, {2, 225}, {7, 625}, {api.P, 121}, {api.P - 3, 25}, {api.P - 2, 49}, {1152921504606846970, 0}} {
		r := mustNew(t, shape{c.seed, 3, 2, 1, 1})
		if !reflect.DeepEqual(r.Filter, bloom.Filter{Seed: c.want, Hashes: 2, Bits: make([]bool, 3)}) || r.Seed != c.seed {
			t.Errorf("New of the seed %d has the Filter %+v, want the seed %d", c.seed, r.Filter, c.want)
		}
	}
}

func TestNewCells(t *testing.T) {
	for _, row := range mustNew(t, shape{1, 8, 2, 7, 256}).Rows {
		for _, c := range row {
			if c.Xor != strings.Repeat("\x00", 37) || c.Flows != 0 || c.Packets != 0 || c.Bytes != 0 {
				t.Fatalf("a new cell is %+v", c)
			}
		}
	}
}

// Neither two new radars nor two rows of one share any memory.
func TestNewRadarsShareNothing(t *testing.T) {
	h := shape{1, 16, 2, 3, 4}
	r, o := mustNew(t, h), mustNew(t, h)
	for i := range r.Rows {
		for at := range r.Rows[i] {
			r.Rows[i][at].Packets = 10*i + at
		}
	}
	// All are written into ahead of this, as a longer row may be in memory of its own.
	for i := range r.Rows {
		r.Rows[i] = append(r.Rows[i], Cell{Packets: 90 + i})
	}
	for i, row := range r.Rows {
		for at, c := range row[:4] {
			if c.Packets != 10*i+at {
				t.Errorf("a row's cell is another's: %+v", r)
			}
		}
		if row[4].Packets != 90+i {
			t.Errorf("what lies behind a row is another's: %+v", r)
		}
	}
	scribble(r)
	if !same(o, bare(h)) || !same(mustNew(t, h), bare(h)) {
		t.Errorf("what one radar holds is another's: %+v", o)
	}
}

// P16.1: Right.

func TestRight(t *testing.T) {
	source := rand.New(rand.NewSource(61))
	for range 20 {
		for _, h := range shapes() {
			r := drawn(source, h)
			before := apart(r)
			if !Right(r) {
				t.Fatalf("Right(%+v) = false", r)
			}
			if !same(r, before) {
				t.Fatalf("%+v became %+v", before, r)
			}
		}
	}
}

func TestRightOfEachSize(t *testing.T) {
	for n := range 520 {
		for _, other := range []int{1, 3, 7} {
			hold := func(h shape, want bool) {
				t.Helper()
				if got := Right(bare(h)); got != want {
					t.Fatalf("Right of %+v: %t", h, got)
				}
			}
			hold(shape{uint64(n), n, other, other, other}, n >= 1 && n <= 256)
			hold(shape{uint64(n), other, n, other, other}, n >= 1 && n <= 7)
			hold(shape{uint64(n), other, other, n, other}, n >= 1 && n <= 7)
			hold(shape{uint64(n), other, other, other, n}, n >= 1 && n <= 256)
		}
	}
}

func TestRightOfUnlikeRows(t *testing.T) {
	for rows := 2; rows <= 7; rows++ {
		for i := range rows {
			for _, cols := range []int{1, 2, 5, 255, 256} {
				for _, other := range []int{0, 1, 2, 4, 5, 6, 254, 255, 256, 257} {
					r := bare(shape{1, 8, 2, rows, cols})
					r.Rows[i] = bare(shape{1, 8, 2, 1, other}).Rows[0]
					if got := Right(r); got != (other == cols) {
						t.Fatalf("Right of %d rows of %d cells, and of %d in the row %d: %t", rows, cols, other, i, got)
					}
				}
			}
		}
	}
}

func TestRightOfEachCell(t *testing.T) {
	for _, h := range []shape{{1, 8, 2, 1, 1}, {1, 8, 2, 3, 4}, {1, 8, 2, 7, 1}} {
		for i := range h.rows {
			for at := range h.cols {
				hold := func(c Cell, want bool) {
					t.Helper()
					r := bare(h)
					r.Rows[i][at] = c
					if got := Right(r); got != want {
						t.Fatalf("Right of %d rows of %d cells, with %+v: %t", h.rows, h.cols, c, got)
					}
				}
				for n := range 80 {
					hold(Cell{Xor: strings.Repeat("\x00", n)}, n == 37)
					hold(Cell{strings.Repeat("x", n), 1, 2, 3}, n == 37)
				}
				for n := -150; n <= 150; n++ {
					for _, number := range []int{n, n + maxCount, n - maxCount} {
						hold(Cell{Xor: nought, Flows: number}, number >= -maxCount && number <= maxCount)
						hold(Cell{Xor: nought, Packets: number}, number >= 0 && number <= maxCount)
						hold(Cell{Xor: nought, Bytes: number}, number >= 0 && number <= maxCount)
					}
				}
				for _, number := range wrongNumbers {
					hold(Cell{Xor: nought, Flows: number}, false)
					hold(Cell{Xor: nought, Packets: number}, false)
					hold(Cell{Xor: nought, Bytes: number}, false)
				}
				hold(Cell{numbered(1), -maxCount, maxCount, maxCount}, true)
				hold(Cell{numbered(1), maxCount, maxCount, maxCount}, true)
			}
		}
	}
}

// The seed of the Filter is held as it is, not modulo the prime.
func TestRightOfFilterSeeds(t *testing.T) {
	for _, seed := range seeds {
		r := bare(shape{seed, 8, 2, 2, 2})
		own := hash.Row(seed, 0)
		for _, other := range []uint64{seed, own + 1, own - 1, own + api.P, own ^ 1<<63, own ^ 1<<32, hash.Row(seed, 1), hash.Row(own, 0), hash.Row(seed+1, 0)} {
			r.Filter.Seed = other
			if got := Right(r); got != (other == own) {
				t.Errorf("Right of the seed %d with a Filter of the seed %d: %t", seed, other, got)
			}
		}
	}
	// Seeds that are alike modulo the prime have one Row 0.
	r := bare(shape{5, 8, 2, 2, 2})
	for _, seed := range []uint64{5, api.P + 5, 2*api.P + 5, 4, 6} {
		r.Seed = seed
		if got := Right(r); got != (seed != 4 && seed != 6) {
			t.Errorf("Right of the seed %d with a Filter for the seed 5: %t", seed, got)
		}
	}
}

// The room behind a list does not make it longer.
func TestRightGoesByLength(t *testing.T) {
	r := bare(shape{1, 512, 7, 16, 512})
	r.Filter.Bits = r.Filter.Bits[:256]
	r.Rows = r.Rows[:7]
	for i := range r.Rows {
		r.Rows[i][256].Packets = -1
		r.Rows[i] = r.Rows[i][:256]
	}
	if !Right(r) {
		t.Error("a radar with room behind its lists is not right")
	}
	r.Rows = r.Rows[:8]
	r.Rows[7] = r.Rows[7][:256]
	if Right(r) {
		t.Error("a radar of 8 rows is right")
	}
}

// wrongRadars are wrong in one thing each, of several radars.
func wrongRadars() []Radar {
	source := rand.New(rand.NewSource(62))
	list := []Radar{{}, {Seed: 1}, {Seed: 1, Filter: bare(shape{1, 8, 2, 1, 1}).Filter}, {Seed: 1, Rows: bare(shape{1, 8, 2, 1, 1}).Rows}}
	for _, h := range shapes() {
		for _, r := range []Radar{bare(h), drawn(source, h)} {
			list = append(list, wrongly(r)...)
		}
	}
	return append(list, bare(shape{1, 8, 2, 1, 0}), bare(shape{1, 8, 2, 7, 0}), bare(shape{1, 8, 2, 1, 257}), bare(shape{1, 8, 2, 7, 257}), bare(shape{1, 8, 2, 8, 256}), bare(shape{1, 8, 2, 300, 300}))
}

// wrongly are radars that differ from a right one in one thing, which makes them wrong.
func wrongly(r Radar) []Radar {
	var list []Radar
	with := func(turn func(o *Radar)) {
		o := apart(r)
		turn(&o)
		list = append(list, o)
	}
	last, end := len(r.Rows)-1, len(r.Rows[0])-1
	for _, n := range wrongNumbers {
		with(func(o *Radar) { o.Rows[0][0].Flows = n })
		with(func(o *Radar) { o.Rows[last][end].Flows = n })
	}
	for _, n := range append([]int{-maxCount, -2, -1}, wrongNumbers...) {
		with(func(o *Radar) { o.Rows[0][end].Packets = n })
		with(func(o *Radar) { o.Rows[last][0].Packets = n })
		with(func(o *Radar) { o.Rows[0][0].Bytes = n })
		with(func(o *Radar) { o.Rows[last][end].Bytes = n })
	}
	for _, text := range wrongKeys {
		with(func(o *Radar) { o.Rows[0][0].Xor = text })
		with(func(o *Radar) { o.Rows[last][end] = Cell{text, 1, 1, 1} })
	}
	with(func(o *Radar) { o.Rows = nil })
	with(func(o *Radar) { o.Rows = [][]Cell{} })
	with(func(o *Radar) { o.Rows = append(o.Rows, nil) })
	with(func(o *Radar) { o.Rows = append(o.Rows, make([]Cell, end+1)) })
	with(func(o *Radar) { o.Rows = append(o.Rows, bare(shape{1, 1, 1, 1, end + 2}).Rows[0]) })
	with(func(o *Radar) {
		for len(o.Rows) < 8 {
			o.Rows = append(o.Rows, bare(shape{1, 1, 1, 1, end + 1}).Rows[0])
		}
	})
	return append(list, withWrongFilter(r)...)
}

// withWrongFilter are radars of a Filter that is not right, or not that of the radar.
func withWrongFilter(r Radar) []Radar {
	var list []Radar
	with := func(turn func(f *bloom.Filter)) {
		o := apart(r)
		turn(&o.Filter)
		list = append(list, o)
	}
	for _, n := range wrongHashes {
		with(func(f *bloom.Filter) { f.Hashes = n })
	}
	for _, n := range []int{0, 257, 258, 512} {
		with(func(f *bloom.Filter) { f.Bits = make([]bool, n) })
	}
	for _, n := range []uint64{hash.Row(r.Seed, 1), hash.Row(r.Seed, 7), r.Filter.Seed + 1, r.Filter.Seed - 1, r.Filter.Seed + api.P, r.Filter.Seed ^ 1<<63} {
		with(func(f *bloom.Filter) { f.Seed = n })
	}
	with(func(f *bloom.Filter) { *f = bloom.Filter{} })
	with(func(f *bloom.Filter) { f.Bits = nil })
	return list
}

func TestWrongRadars(t *testing.T) {
	list := append(slices.Clone(wrongKeys), keys()[:4]...)
	for _, r := range wrongRadars() {
		before := apart(r)
		if Right(r) {
			t.Fatalf("Right(%+v) = true", r)
		}
		for n, key := range list {
			mustNotAdd(t, r, key, n, api.ErrArg)
			if got := Place(r, key, n%4); got != 0 {
				t.Fatalf("Place(%+v, %q, %d) = %d", r, key, n%4, got)
			}
		}
		mustRemove(t, r, numbered(1), r)
		mustRemove(t, r, "short", r)
		mustPure(t, r, nil, "")
		mustPure(t, r, []string{"a", nought}, "")
		mustPeel(t, r, r)
		mustEmpty(t, r, false)
		if !same(r, before) {
			t.Fatalf("%+v became %+v", before, r)
		}
	}
}

// Of a radar that is not right nothing is told even where all that was asked for is right.
func TestWrongElsewhere(t *testing.T) {
	r := bare(shape{1, 8, 2, 2, 16})
	key := numbered(1)
	empty := apart(r)
	r = mustAdd(t, r, key, 3)
	mustPure(t, r, nil, key)
	if Place(r, key, 0) != plainPlace(r, key, 0) || plainPlace(r, key, 0) == 0 {
		t.Fatalf("Place of %q: %d", key, Place(r, key, 0))
	}
	at := (plainPlace(r, key, 1) + 1) % 16
	for _, turn := range []func(o *Radar){
		func(o *Radar) { o.Rows[1][at].Packets = maxCount + 1 },
		func(o *Radar) { o.Rows[1][at].Bytes = -1 },
		func(o *Radar) { o.Filter.Seed++ },
		func(o *Radar) { o.Rows = append(o.Rows, nil) },
	} {
		wrong := apart(r)
		turn(&wrong)
		mustPure(t, wrong, nil, "")
		mustPeel(t, wrong, wrong)
		mustRemove(t, wrong, key, wrong)
		mustNotAdd(t, wrong, key, 1, api.ErrArg)
		if got := Place(wrong, key, 0); got != 0 {
			t.Errorf("Place of a radar that is not right: %d", got)
		}
		wrong = apart(empty)
		turn(&wrong)
		mustEmpty(t, wrong, false)
	}
}

// P16.1: Place.

func TestPlace(t *testing.T) {
	for _, h := range shapes() {
		for _, seed := range seeds {
			h.seed = seed
			r := bare(h)
			before := apart(r)
			for _, key := range keys() {
				for i := range h.rows {
					want := int(hash.Sum(hash.Row(seed, i+1), key) % uint64(h.cols))
					if got := Place(r, key, i); got != want {
						t.Fatalf("Place of %q in the row %d of %+v = %d, want %d", key, i, h, got, want)
					}
				}
				for _, i := range []int{math.MinInt, math.MinInt + 1, -h.rows, -2, -1, h.rows, h.rows + 1, 7, 8, 1 << 32, math.MaxInt - 1, math.MaxInt} {
					if got := Place(r, key, i); got != 0 {
						t.Fatalf("Place of %q in the row %d of %+v = %d", key, i, h, got)
					}
				}
			}
			for _, key := range wrongKeys {
				for i := -1; i <= 7; i++ {
					if got := Place(r, key, i); got != 0 {
						t.Fatalf("Place of %q in the row %d = %d", key, i, got)
					}
				}
			}
			if !same(r, before) {
				t.Fatalf("%+v became %+v", before, r)
			}
		}
	}
}

// The cells of unlike rows are told by unlike rows of the seed, none of which is the Filter's.
func TestPlaceOfUnlikeRows(t *testing.T) {
	r := mustNew(t, shape{3, 256, 7, 7, 256})
	for i := range 7 {
		for j := range i {
			alike := 0
			for n := range 100 {
				if Place(r, numbered(n), i) == Place(r, numbered(n), j) {
					alike++
				}
			}
			if alike > 10 {
				t.Errorf("%d of 100 keys have one cell in the rows %d and %d", alike, i, j)
			}
		}
	}
}

// P16.2: Add.

func TestAddOfAKey(t *testing.T) {
	for _, h := range shapes() {
		for _, key := range keys() {
			for _, bytes := range []int{0, 1, 2, 100, maxCount - 1, maxCount} {
				r := mustAdd(t, mustNew(t, h), key, bytes)
				want := bare(h)
				for i := range want.Rows {
					*cellOf(want, key, i) = Cell{key, 1, 1, bytes}
				}
				for _, at := range filterPlaces(want, key) {
					want.Filter.Bits[at] = true
				}
				if !same(r, want) {
					t.Fatalf("Add of %q, %d bytes, to a new one of %+v = %+v", key, bytes, h, r)
				}
			}
		}
	}
}

// A key that the Filter has brings neither a flow nor itself.
func TestAddOfAKeyThatTheFilterHas(t *testing.T) {
	for _, h := range shapes() {
		for _, key := range keys() {
			r := mustAdd(t, bare(h), key, 5)
			want := apart(r)
			for range 3 {
				r = mustAdd(t, r, key, 7)
				for i := range want.Rows {
					c := cellOf(want, key, i)
					c.Packets++
					c.Bytes += 7
				}
				if !same(r, want) {
					t.Fatalf("Add of %q again = %+v, want %+v", key, r, want)
				}
			}
			// One that never came, but all of whose bits are set, is taken for one that came.
			r = bare(h)
			for _, at := range filterPlaces(r, key) {
				r.Filter.Bits[at] = true
			}
			want = apart(r)
			for i := range want.Rows {
				*cellOf(want, key, i) = Cell{nought, 0, 1, 9}
			}
			if r = mustAdd(t, r, key, 9); !same(r, want) {
				t.Fatalf("Add of %q, whose bits are set = %+v, want %+v", key, r, want)
			}
		}
	}
}

// A key some of whose bits are set is new, and all of them are set then.
func TestAddOfAKeyThatTheFilterHasInPart(t *testing.T) {
	h := shape{5, 256, 7, 3, 8}
	for _, key := range keys() {
		for i := range h.hashes {
			r := bare(h)
			places := filterPlaces(r, key)
			for j, at := range places {
				r.Filter.Bits[at] = r.Filter.Bits[at] || j != i
			}
			if slices.Contains(append(slices.Clone(places[:i]), places[i+1:]...), places[i]) {
				continue
			}
			want := apart(r)
			want.Filter.Bits[places[i]] = true
			for row := range want.Rows {
				*cellOf(want, key, row) = Cell{key, 1, 1, 4}
			}
			if r = mustAdd(t, r, key, 4); !same(r, want) {
				t.Fatalf("Add of %q = %+v, want %+v", key, r, want)
			}
		}
	}
}

func TestAddOfWrongArguments(t *testing.T) {
	source := rand.New(rand.NewSource(63))
	for _, h := range shapes() {
		for _, r := range []Radar{bare(h), drawn(source, h)} {
			for _, key := range wrongKeys {
				for _, bytes := range []int{-1, 0, 1, maxCount, maxCount + 1} {
					mustNotAdd(t, r, key, bytes, api.ErrArg)
				}
			}
			for _, bytes := range append([]int{-1, -2, -100, -maxCount}, wrongNumbers...) {
				for _, key := range keys() {
					mustNotAdd(t, r, key, bytes, api.ErrArg)
				}
			}
		}
	}
	// The wrong argument is told ahead of the full cell.
	r := bare(shape{1, 8, 2, 1, 1})
	r.Rows[0][0] = Cell{nought, maxCount, maxCount, maxCount}
	mustNotAdd(t, r, "short", 1, api.ErrArg)
	mustNotAdd(t, r, numbered(1), -1, api.ErrArg)
	mustNotAdd(t, r, numbered(1), maxCount+1, api.ErrArg)
	mustNotAdd(t, r, numbered(1), 0, api.ErrFull)
}

// Each number of each of a key's cells, at its end and just below it; the cells of other keys do not matter.
func TestAddOfFullCells(t *testing.T) {
	for _, h := range []shape{{1, 64, 2, 1, 1}, {1, 64, 2, 2, 8}, {9, 256, 5, 7, 16}} {
		for _, key := range keys()[3:10] {
			for i := range h.rows {
				for _, has := range []bool{false, true} {
					for _, bytes := range []int{0, 1, 100, maxCount} {
						hold := func(c Cell, want api.Errno) {
							t.Helper()
							r := bare(h)
							for _, at := range filterPlaces(r, key) {
								r.Filter.Bits[at] = has
							}
							*cellOf(r, key, i) = c
							if want != api.OK {
								mustNotAdd(t, r, key, bytes, want)
								return
							}
							mustAddAsPlain(t, r, key, bytes)
						}
						fullIf := func(full bool) api.Errno {
							if full {
								return api.ErrFull
							}
							return api.OK
						}
						for below := range 4 {
							hold(Cell{numbered(9), maxCount - below, 0, 0}, fullIf(below < 1 && !has))
							hold(Cell{numbered(9), 0, maxCount - below, 0}, fullIf(below < 1))
							hold(Cell{numbered(9), 0, 0, maxCount - below}, fullIf(below < bytes))
							hold(Cell{numbered(9), -maxCount + below, 0, 0}, api.OK)
						}
						hold(Cell{numbered(9), 0, 0, maxCount - bytes}, api.OK)
						if bytes > 0 {
							hold(Cell{numbered(9), 0, 0, maxCount - bytes + 1}, api.ErrFull)
						}
						hold(Cell{numbered(9), maxCount - 1, maxCount - 1, maxCount - bytes}, api.OK)
					}
				}
			}
		}
	}
}

func TestAddBesideFullCells(t *testing.T) {
	h := shape{2, 256, 3, 3, 4}
	for _, key := range keys() {
		r := bare(h)
		for i, row := range r.Rows {
			for at := range row {
				if at != plainPlace(r, key, i) {
					row[at] = Cell{numbered(at), maxCount, maxCount, maxCount}
				}
			}
		}
		r = mustAddAsPlain(t, r, key, maxCount)
		mustNotAdd(t, r, key, 1, api.ErrFull)
		mustAddAsPlain(t, r, key, 0)
	}
}

// mustAddAsPlain holds Add against the plain one, error and all.
func mustAddAsPlain(t *testing.T, r Radar, key string, bytes int) Radar {
	t.Helper()
	want, err := plainAdd(r, key, bytes)
	if err != api.OK {
		mustNotAdd(t, r, key, bytes, err)
		return r
	}
	got := mustAdd(t, r, key, bytes)
	if !same(got, want) {
		t.Fatalf("Add of %q, %d bytes, to %+v = %+v, want %+v", key, bytes, r, got, want)
	}
	return got
}

func TestAddAsTheWordsSay(t *testing.T) {
	source := rand.New(rand.NewSource(64))
	list := keys()
	for _, h := range shapes() {
		for range 20 {
			r := drawn(source, h)
			for range 8 {
				mustAddAsPlain(t, r, list[source.Intn(len(list))], []int{0, 1, 99, 100, 101, maxCount}[source.Intn(6)])
			}
		}
	}
}

func TestRowsOfKeysAsTheWordsSay(t *testing.T) {
	source := rand.New(rand.NewSource(65))
	for _, h := range shapes() {
		for _, unlike := range []int{1, 2, 10, 2000} {
			r := mustNew(t, h)
			for range 60 {
				r = mustAddAsPlain(t, r, numbered(source.Intn(unlike)), source.Intn(2000))
			}
			mustPeelAsPlain(t, r)
		}
	}
}

// P16.2: Remove.

func TestRemove(t *testing.T) {
	for _, h := range shapes() {
		for _, key := range keys() {
			for _, c := range []struct{ flows, want int }{
				{-maxCount, -maxCount}, {1 - maxCount, -maxCount}, {2 - maxCount, 1 - maxCount}, {-1, -2}, {0, -1}, {1, 0}, {2, 1}, {maxCount, maxCount - 1},
			} {
				for i := range h.rows {
					r := bare(h)
					*cellOf(r, key, i) = Cell{numbered(5), c.flows, 3, 4}
					want := bare(h)
					for j := range want.Rows {
						*cellOf(want, key, j) = Cell{key, -1, 0, 0}
					}
					*cellOf(want, key, i) = Cell{xor(numbered(5), key), c.want, 3, 4}
					mustRemove(t, r, key, want)
				}
			}
		}
	}
}

func TestRemoveOfWrongKeys(t *testing.T) {
	source := rand.New(rand.NewSource(66))
	for _, h := range shapes() {
		for _, r := range []Radar{bare(h), drawn(source, h)} {
			for _, key := range wrongKeys {
				mustRemove(t, r, key, r)
			}
		}
	}
}

// What was added and removed leaves neither flow nor key; its packets, its bytes and its bits stay.
func TestRemoveOfWhatWasAdded(t *testing.T) {
	h := shape{1, 256, 5, 3, 16}
	one, other := numbered(1), numbered(2)
	both := withAll(t, bare(h), one, other)
	left := Remove(both, one)
	want := withAll(t, bare(h), other)
	for _, at := range filterPlaces(want, one) {
		want.Filter.Bits[at] = true
	}
	for i := range want.Rows {
		c := cellOf(want, one, i)
		c.Packets++
		c.Bytes += 2
	}
	if !same(left, want) {
		t.Errorf("Remove(%+v, %q) = %+v, want %+v", both, one, left, want)
	}
	if left = Remove(left, other); !Empty(left) {
		t.Errorf("%+v is not empty", left)
	}
	// It comes no more: its bits are set, so that it brings no flow.
	if left = mustAdd(t, left, one, 1); !Empty(left) {
		t.Errorf("%+v is not empty", left)
	}
}

func TestRemoveAsTheWordsSay(t *testing.T) {
	source := rand.New(rand.NewSource(67))
	list := keys()
	for _, h := range shapes() {
		for range 20 {
			r := drawn(source, h)
			for range 8 {
				key := list[source.Intn(len(list))]
				mustRemove(t, r, key, plainRemove(r, key))
				r = Remove(r, key)
				if !Right(r) {
					t.Fatalf("Remove of %q told %+v", key, r)
				}
			}
		}
	}
}

// P16.3: Pure.

// all is a radar whose Filter has all keys.
func all(h shape) Radar {
	r := bare(h)
	for i := range r.Filter.Bits {
		r.Filter.Bits[i] = true
	}
	return r
}

// keyAt is the first key that has such cells, from the row 0 on, behind so many others of them.
func keyAt(r Radar, skip int, places ...int) string {
	for n := 0; ; n++ {
		fits := true
		for i, at := range places {
			fits = fits && plainPlace(r, numbered(n), i) == at
		}
		if fits && skip == 0 {
			return numbered(n)
		}
		if fits {
			skip--
		}
	}
}

func TestPureOfOneCell(t *testing.T) {
	h := shape{6, 64, 2, 3, 4}
	for i := range 3 {
		for at := range 4 {
			for _, key := range keys() {
				for _, flows := range []int{-maxCount, -2, -1, 0, 1, 2, 3, 255, 257, maxCount} {
					r := all(h)
					r.Rows[i][at] = Cell{key, flows, 0, 0}
					want := ""
					if flows == 1 && plainPlace(r, key, i) == at {
						want = key
					}
					mustPure(t, r, nil, want)
					mustPure(t, r, []string{}, want)
					mustPure(t, r, []string{"", "a", key[:36], key + "\x00", numbered(77)}, want)
					mustPure(t, r, []string{key}, "")
					mustPure(t, r, []string{numbered(77), key, numbered(78)}, "")
				}
			}
		}
	}
}

// Packets and Bytes do not matter.
func TestPureOfAnyNumbers(t *testing.T) {
	r := all(shape{6, 64, 2, 3, 4})
	key := numbered(3)
	for _, packets := range []int{0, 1, 2, maxCount} {
		for _, bytes := range []int{0, 1, 2, maxCount} {
			*cellOf(r, key, 1) = Cell{key, 1, packets, bytes}
			mustPure(t, r, nil, key)
		}
	}
}

func TestPureGoesByTheFilter(t *testing.T) {
	for _, h := range []shape{{6, 64, 1, 3, 4}, {6, 256, 7, 1, 1}, {6, 256, 3, 7, 256}} {
		for _, key := range keys() {
			r := bare(h)
			*cellOf(r, key, h.rows-1) = Cell{key, 1, 1, 1}
			mustPure(t, r, nil, "")
			places := filterPlaces(r, key)
			for _, at := range places {
				mustPure(t, r, nil, "")
				r.Filter.Bits[at] = true
				if plainHas(r, key) {
					break
				}
			}
			mustPure(t, r, nil, key)
			for i := range r.Filter.Bits {
				r.Filter.Bits[i] = !slices.Contains(places, i)
			}
			mustPure(t, r, nil, "")
		}
	}
}

// By rows, then cells: each one is told, once those ahead of it were.
func TestPureOfSeveralCells(t *testing.T) {
	h := shape{8, 64, 2, 3, 4}
	r := all(h)
	var want []string
	for i := range 3 {
		for at := range 4 {
			places := []int{-1, -1, -1}
			places[i] = at
			for n := 0; ; n++ {
				key := numbered(n)
				if plainPlace(r, key, i) == at && !slices.Contains(want, key) {
					r.Rows[i][at] = Cell{key, 1, 5, 5}
					want = append(want, key)
					break
				}
			}
		}
	}
	for i, key := range want {
		mustPure(t, r, want[:i], key)
		turned := slices.Clone(want[:i])
		slices.Reverse(turned)
		mustPure(t, r, append(turned, "", "other", want[len(want)-1]+"x"), key)
	}
	mustPure(t, r, want, "")
	mustPure(t, r, want[1:], want[0])
	mustPure(t, r, append(slices.Clone(want[:4]), want[5:]...), want[4])
	// A cell that is not pure hides none behind it.
	for i := range len(want) - 1 {
		r.Rows[i/4][i%4].Flows = 2
		mustPure(t, r, nil, want[i+1])
		r.Rows[i/4][i%4].Flows = 0
		mustPure(t, r, want[:i], want[i+1])
	}
}

// A key may be alone in two rows: told, it is told for both.
func TestPureOfOneKeyInSeveralRows(t *testing.T) {
	r := withAll(t, bare(shape{1, 256, 5, 3, 16}), numbered(4))
	mustPure(t, r, nil, numbered(4))
	mustPure(t, r, []string{numbered(4)}, "")
	mustPure(t, bare(shape{1, 256, 5, 3, 16}), nil, "")
	// The key of noughts is one like others.
	r = withAll(t, bare(shape{1, 256, 5, 3, 16}), nought)
	mustPure(t, r, nil, nought)
	mustPure(t, r, []string{nought}, "")
	mustPeel(t, r, plainRemove(r, nought), nought)
}

func TestPureAsTheWordsSay(t *testing.T) {
	source := rand.New(rand.NewSource(68))
	found := 0
	for _, h := range shapes() {
		for range 40 {
			r := drawn(source, h)
			var told []string
			for {
				want, ok := plainPure(r, told)
				mustPure(t, r, told, want)
				if !ok {
					break
				}
				found++
				told = append(told, want)
				source.Shuffle(len(told), func(i, j int) { told[i], told[j] = told[j], told[i] })
			}
		}
	}
	if found < 500 {
		t.Errorf("%d pure keys were told, too few to hold anything", found)
	}
}

// P16.3: Peel.

func mustPeelAsPlain(t *testing.T, r Radar) int {
	t.Helper()
	want, left := plainPeel(r)
	mustPeel(t, r, left, want...)
	// It is what Pure and Remove do, one by one.
	var told []string
	rest := r
	for {
		key, ok := Pure(rest, told)
		if !ok {
			break
		}
		told = append(told, key)
		rest = Remove(rest, key)
	}
	slices.Sort(told)
	if !slices.Equal(told, want) || !same(rest, left) {
		t.Fatalf("Pure and Remove of %+v tell %q, %+v, and Peel %q, %+v", r, told, rest, want, left)
	}
	return len(want)
}

func TestPeelAsTheWordsSay(t *testing.T) {
	source := rand.New(rand.NewSource(69))
	most := 0
	for _, h := range shapes() {
		for range 40 {
			most = max(most, mustPeelAsPlain(t, drawn(source, h)))
		}
	}
	if most < 5 {
		t.Errorf("%d keys came out at most, too few to hold anything", most)
	}
}

// With n rows, of keys that share a cell with the one ahead in one row and with the one behind in another: they come out from both ends on.
func TestPeelOfAChain(t *testing.T) {
	h := shape{12, 256, 7, 2, 8}
	r := bare(h)
	// The first two share the cell 0 of the row 0, the next two the cell 1 of the row 1, and so on.
	list := []string{
		keyAt(r, 0, 0, 0), keyAt(r, 0, 0, 1), keyAt(r, 0, 1, 1), keyAt(r, 0, 1, 2), keyAt(r, 0, 2, 2), keyAt(r, 0, 2, 3),
	}
	r = withAll(t, r, list...)
	// The first key is alone in the row 1, as is the last one; all others are not alone at first.
	mustPure(t, r, nil, list[0])
	mustPure(t, r, []string{list[0]}, list[5])
	mustPure(t, r, []string{list[0], list[5]}, "")
	left := r
	for _, key := range list {
		left = plainRemove(left, key)
	}
	sorted := slices.Clone(list)
	slices.Sort(sorted)
	mustPeel(t, r, left, sorted...)
	mustEmpty(t, left, true)
	mustPeelAsPlain(t, r)
	// Closed to a ring nothing comes out.
	ring := mustAdd(t, r, keyAt(r, 0, 3, 3), 1)
	ring = mustAdd(t, ring, keyAt(r, 0, 3, 0), 1)
	mustPure(t, ring, nil, "")
	mustPeel(t, ring, ring)
	mustEmpty(t, ring, false)
	// Beside the ring one that is alone comes out, and no more.
	single := keyAt(r, 0, 6, 6)
	some := mustAdd(t, ring, single, 1)
	mustPeel(t, some, plainRemove(some, single), single)
	mustEmpty(t, plainRemove(some, single), false)
}

// Two keys with the same cells in all rows never come out.
func TestPeelOfTwins(t *testing.T) {
	r := bare(shape{12, 256, 7, 2, 4})
	one, other := keyAt(r, 0, 2, 3), keyAt(r, 1, 2, 3)
	r = withAll(t, r, one, other, one)
	mustPeel(t, r, r)
	mustEmpty(t, r, false)
	mustPeel(t, Remove(r, one), plainRemove(plainRemove(r, one), other), other)
	mustPeel(t, bare(shape{12, 256, 7, 2, 4}), bare(shape{12, 256, 7, 2, 4}))
}

// A key is told once, even where a cell is left with it alone.
func TestPeelTellsEachOnce(t *testing.T) {
	r := all(shape{12, 64, 2, 2, 8})
	key := keyAt(r, 0, 2, 3)
	r.Rows[0][2] = Cell{key, 1, 1, 1}
	r.Rows[1][3] = Cell{nought, 2, 1, 1}
	left := apart(r)
	left.Rows[0][2] = Cell{nought, 0, 1, 1}
	left.Rows[1][3] = Cell{key, 1, 1, 1}
	mustPeel(t, r, left, key)
	mustPure(t, left, nil, key)
	mustPure(t, left, []string{key}, "")
	// Peeled again, what is left tells it once more, as nothing is kept.
	last := apart(left)
	last.Rows[0][2] = Cell{key, -1, 1, 1}
	last.Rows[1][3] = Cell{nought, 0, 1, 1}
	mustPeel(t, left, last, key)
}

// Cells whose Flows are as low as can be stay so, and take the key all the same.
func TestPeelOfTheLowestFlows(t *testing.T) {
	r := all(shape{12, 64, 2, 2, 8})
	key := keyAt(r, 0, 2, 3)
	r.Rows[0][2] = Cell{key, 1, 1, 1}
	r.Rows[1][3] = Cell{nought, -maxCount, 1, 1}
	left := apart(r)
	left.Rows[0][2] = Cell{nought, 0, 1, 1}
	left.Rows[1][3] = Cell{key, -maxCount, 1, 1}
	mustPeel(t, r, left, key)
}

// In rising order of bytes, whichever came out first.
func TestPeelRises(t *testing.T) {
	r := all(shape{1, 256, 7, 1, 256})
	list := []string{"\xff" + nought[1:], "\x80" + nought[1:], "\x7f" + nought[1:], "\x01" + nought[1:], nought[1:] + "\xff", nought[1:] + "\x01", nought}
	left := apart(r)
	for i, key := range list {
		*cellOf(r, key, 0) = Cell{key, 1, i, i}
		*cellOf(left, key, 0) = Cell{nought, 0, i, i}
	}
	slices.Reverse(list)
	mustPeel(t, r, left, list...)
}

// put puts a key into its cells, whatever the Filter has.
func put(r Radar, key string) {
	for i := range r.Rows {
		c := cellOf(r, key, i)
		*c = Cell{xor(c.Xor, key), c.Flows + 1, 3, 3}
	}
}

// As many as there are: one key in each of the most cells that a row has, and more keys than that where rows are several.
func TestPeelOfAll(t *testing.T) {
	r := all(shape{77, 256, 7, 7, 256})
	var want []string
	for n := 0; len(want) < 256; n++ {
		if cellOf(r, numbered(n), 0).Flows == 0 {
			put(r, numbered(n))
			want = append(want, numbered(n))
		}
	}
	mustPeelAll(t, r, want)
	r, want = all(shape{77, 256, 7, 3, 256}), nil
	for n := range 550 {
		put(r, numbered(n))
		want = append(want, numbered(n))
	}
	mustPeelAll(t, r, want)
}

func mustPeelAll(t *testing.T, r Radar, want []string) {
	t.Helper()
	got, left := Peel(r)
	if !slices.Equal(got, want) || !Empty(left) || !Right(left) {
		t.Errorf("Peel told %d of %d keys", len(got), len(want))
	}
}

// P16.3: Empty.

func TestEmptyOfEachCell(t *testing.T) {
	for _, h := range []shape{{1, 8, 2, 1, 1}, {1, 8, 2, 3, 4}, {1, 8, 2, 7, 2}} {
		mustEmpty(t, bare(h), true)
		mustEmpty(t, all(h), true)
		for i := range h.rows {
			for at := range h.cols {
				hold := func(c Cell, want bool) {
					t.Helper()
					r := bare(h)
					r.Rows[i][at] = c
					mustEmpty(t, r, want)
				}
				for _, flows := range []int{-maxCount, -256, -1, 1, 2, 256, 1 << 32, maxCount} {
					hold(Cell{nought, flows, 0, 0}, false)
					hold(Cell{numbered(0), flows, 0, 0}, false)
				}
				for n := range 37 {
					for _, one := range []string{"\x01", "\x80", "0"} {
						hold(Cell{nought[:n] + one + nought[n+1:], 0, 0, 0}, false)
					}
				}
				for _, n := range []int{0, 1, maxCount} {
					hold(Cell{nought, 0, n, 0}, true)
					hold(Cell{nought, 0, 0, n}, true)
					hold(Cell{nought, 0, n, n}, true)
				}
			}
		}
	}
}

// Flows and Xors that even out over cells are not noughts.
func TestEmptyEvensNothingOut(t *testing.T) {
	r := bare(shape{1, 8, 2, 2, 2})
	r.Rows[0][0] = Cell{numbered(1), 1, 0, 0}
	r.Rows[0][1] = Cell{numbered(1), -1, 0, 0}
	mustEmpty(t, r, false)
	r.Rows[0][0].Flows, r.Rows[0][1].Flows = 0, 0
	mustEmpty(t, r, false)
}

func TestEmptyAsTheWordsSay(t *testing.T) {
	source := rand.New(rand.NewSource(70))
	for range 2000 {
		r := bare(shape{1, 8, 2, 1 + source.Intn(3), 1 + source.Intn(3)})
		for _, row := range r.Rows {
			for at := range row {
				row[at] = Cell{nought, 0, source.Intn(2), source.Intn(2)}
				if source.Intn(12) == 0 {
					row[at].Flows = source.Intn(3) - 1
				}
				if source.Intn(12) == 0 {
					row[at].Xor = keys()[source.Intn(4)]
				}
			}
		}
		mustEmpty(t, r, plainEmpty(r))
	}
}

// What is told is new memory.

// roomy is a radar of the same whose lists have room behind them that one could write into.
func roomy(r Radar) Radar {
	r = apart(r)
	r.Filter.Bits = append(make([]bool, 0, 600), r.Filter.Bits...)
	for i := range r.Rows {
		r.Rows[i] = append(make([]Cell, 0, 600), r.Rows[i]...)
	}
	r.Rows = append(make([][]Cell, 0, 20), r.Rows...)
	return r
}

// mustShareNothing holds that what a call tells and what it was given are apart.
func mustShareNothing(t *testing.T, r Radar, call func(r Radar) Radar) {
	t.Helper()
	given := roomy(r)
	told := call(given)
	kept := apart(told)
	scribble(told)
	if !same(given, r) {
		t.Fatalf("what was told shares memory with what was given: %+v", given)
	}
	told = call(given)
	scribble(given)
	if !same(told, kept) {
		t.Fatalf("what was given shares memory with what was told: %+v", told)
	}
}

func TestAnswersShareNothing(t *testing.T) {
	source := rand.New(rand.NewSource(71))
	for _, h := range shapes() {
		for _, r := range []Radar{bare(h), all(h), withAll(t, bare(h), numbered(1)), withAll(t, bare(h), numbered(1), numbered(2), numbered(3)), drawn(source, h)} {
			wrong := apart(r)
			wrong.Rows[0][0].Packets = -1
			for _, key := range []string{numbered(1), numbered(9), nought} {
				if _, err := Add(r, key, 0); err == api.OK {
					mustShareNothing(t, r, func(r Radar) Radar { return mustAdd(t, r, key, 0) })
				}
				mustShareNothing(t, r, func(r Radar) Radar { return Remove(r, key) })
				mustShareNothing(t, wrong, func(r Radar) Radar { return Remove(r, key) })
			}
			mustShareNothing(t, r, func(r Radar) Radar { return Remove(r, "short") })
			for _, one := range []Radar{r, wrong} {
				mustShareNothing(t, one, func(r Radar) Radar {
					_, left := Peel(r)
					return left
				})
			}
		}
	}
}

// Rows that share a list are rows of their own in what is told.
func TestRowsThatShareAList(t *testing.T) {
	h := shape{3, 64, 2, 3, 8}
	key := numbered(6)
	r := bare(h)
	for i := range r.Rows {
		r.Rows[i] = r.Rows[0]
	}
	mustAddAsPlain(t, r, key, 5)
	mustRemove(t, r, key, plainRemove(r, key))
	r.Rows[0][plainPlace(r, key, 1)] = Cell{key, 1, 1, 1}
	for _, at := range filterPlaces(r, key) {
		r.Filter.Bits[at] = true
	}
	mustPeelAsPlain(t, r)
	if got := Remove(r, key); len(got.Rows) != 3 {
		t.Errorf("%+v", got)
	}
}

func TestPeelListsShareNothing(t *testing.T) {
	r := withAll(t, bare(shape{1, 256, 5, 3, 16}), numbered(1), numbered(2), numbered(3))
	one, _ := Peel(r)
	other, _ := Peel(r)
	for i := range one {
		one[i] = "scribbled"
	}
	if again, _ := Peel(r); !slices.Equal(other, again) || len(again) != 3 {
		t.Errorf("what Peel told shares memory: %q, %q", other, again)
	}
	// What Pure is told has room behind it.
	told := append(make([]string, 0, 8), numbered(1))
	behind := told[:8]
	Pure(r, told)
	for _, text := range behind[1:] {
		if text != "" {
			t.Errorf("Pure wrote behind what it was told: %q", behind)
		}
	}
}

// P16.4.

// came is a key with its packets and bytes.
type came struct {
	key            string
	packets, bytes int
}

// stream is a radar to which keys came, and what they were; apart are those that the Filter told apart.
type stream struct {
	r     Radar
	list  []came
	apart []string
}

func (s *stream) add(t *testing.T, key string, bytes int) {
	t.Helper()
	if !plainHas(s.r, key) {
		s.apart = append(s.apart, key)
	}
	r, err := Add(s.r, key, bytes)
	if err != api.OK {
		t.Fatalf("Add of %q: error %d", key, err)
	}
	s.r = r
	at := slices.IndexFunc(s.list, func(c came) bool { return c.key == key })
	if at < 0 {
		at = len(s.list)
		s.list = append(s.list, came{key: key})
	}
	s.list[at].packets++
	s.list[at].bytes += bytes
}

// hold holds what is promised of what comes out, and whether nothing is left.
func (s *stream) hold(t *testing.T) bool {
	t.Helper()
	told, left := Peel(s.r)
	for i, key := range told {
		if !slices.ContainsFunc(s.list, func(c came) bool { return c.key == key }) {
			t.Fatalf("%q came out, and never came", key)
		}
		if !slices.Contains(s.apart, key) {
			t.Fatalf("%q came out, and was never told apart", key)
		}
		if i > 0 && told[i-1] >= key {
			t.Fatalf("%q do not rise", told)
		}
	}
	if Empty(left) {
		want := slices.Clone(s.apart)
		slices.Sort(want)
		if !slices.Equal(told, want) {
			t.Fatalf("nothing is left, and %q came out, but %q were told apart", told, want)
		}
	}
	for i := range left.Rows {
		for at, c := range left.Rows[i] {
			sum := Cell{Packets: 0}
			for _, one := range s.list {
				if plainPlace(left, one.key, i) == at {
					sum.Packets += one.packets
					sum.Bytes += one.bytes
				}
			}
			if c.Packets != sum.Packets || c.Bytes != sum.Bytes {
				t.Fatalf("the cell %d of the row %d has %+v, and %d packets, %d bytes came", at, i, c, sum.Packets, sum.Bytes)
			}
		}
	}
	return Empty(left)
}

func TestLongRowsOfKeys(t *testing.T) {
	source := rand.New(rand.NewSource(72))
	emptied, stuck, mistaken := 0, 0, 0
	for _, h := range shapes() {
		for _, unlike := range []int{1, 2, 5, 12, 40, 120} {
			for range 3 {
				s := stream{r: mustNew(t, h)}
				for range 3 * unlike {
					s.add(t, numbered(source.Intn(unlike)), source.Intn(1500))
				}
				if s.hold(t) {
					emptied++
				} else {
					stuck++
				}
				if len(s.apart) < len(s.list) {
					mistaken++
				}
			}
		}
	}
	if emptied < 30 || stuck < 30 || mistaken < 30 {
		t.Errorf("%d were emptied, %d not, and %d took a key for another, too few to hold anything", emptied, stuck, mistaken)
	}
}

// Where the Filter tells each new key apart, the order of what came does not matter.
func TestAnyOrder(t *testing.T) {
	source := rand.New(rand.NewSource(73))
	held := 0
	for _, h := range shapes() {
		for _, unlike := range []int{1, 2, 5, 12, 20} {
			var rows []came
			for range 3 * unlike {
				rows = append(rows, came{key: numbered(source.Intn(unlike)), bytes: source.Intn(1500)})
			}
			first := inOrder(t, h, rows)
			for range 4 {
				source.Shuffle(len(rows), func(i, j int) { rows[i], rows[j] = rows[j], rows[i] })
				other := inOrder(t, h, rows)
				if len(first.apart) < len(first.list) || len(other.apart) < len(other.list) {
					continue
				}
				held++
				if !same(first.r, other.r) {
					t.Fatalf("in another order %+v, not %+v", other.r, first.r)
				}
			}
		}
	}
	if held < 50 {
		t.Errorf("%d orders were held, too few to hold anything", held)
	}
}

func inOrder(t *testing.T, h shape, rows []came) stream {
	t.Helper()
	s := stream{r: mustNew(t, h)}
	for _, c := range rows {
		s.add(t, c.key, c.bytes)
	}
	return s
}

// The examples.

func TestExamples(t *testing.T) {
	for _, key := range keys() {
		r := mustNew(t, shape{1, 64, 2, 2, 8})
		r = mustAdd(t, mustAdd(t, r, key, 100), key, 100)
		told, left := Peel(r)
		if !slices.Equal(told, []string{key}) || !Empty(left) {
			t.Fatalf("Peel = %q, %+v", told, left)
		}
		for i, row := range left.Rows {
			for at, c := range row {
				want := Cell{Xor: nought}
				if at == Place(left, key, i) {
					want.Packets, want.Bytes = 2, 200
				}
				if c != want {
					t.Errorf("the cell %d of the row %d is %+v, want %+v", at, i, c, want)
				}
			}
		}
	}
}

// P1: every call ends and none panics, at all arguments.

func TestAnyArguments(t *testing.T) {
	source := rand.New(rand.NewSource(74))
	texts := append(slices.Clone(wrongKeys), keys()...)
	for range 3000 {
		r := Radar{Seed: seeds[source.Intn(len(seeds))], Filter: bloom.Filter{Hashes: source.Intn(10) - 1, Bits: make([]bool, source.Intn(4))}}
		if source.Intn(3) > 0 {
			r.Filter.Seed = hash.Row(r.Seed, 0)
		}
		for range source.Intn(9) {
			var row []Cell
			for range source.Intn(3) {
				row = append(row, Cell{texts[source.Intn(len(texts))], source.Intn(5) - 2, source.Intn(4) - 1, source.Intn(4) - 1})
			}
			r.Rows = append(r.Rows, row)
		}
		before := apart(r)
		key := texts[source.Intn(len(texts))]
		Right(r)
		Place(r, key, source.Intn(12)-2)
		Add(r, key, source.Intn(5)-2)
		Remove(r, key)
		Pure(r, texts[:source.Intn(5)])
		Peel(r)
		Empty(r)
		if !same(r, before) {
			t.Fatalf("%+v became %+v", before, r)
		}
	}
}
