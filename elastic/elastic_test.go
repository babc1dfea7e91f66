package elastic

import (
	"fmt"
	"math"
	"math/rand"
	"reflect"
	"slices"
	"sort"
	"strings"
	"testing"

	"rillmeter/api"
	"rillmeter/hash"
	"rillmeter/heavy"
	"rillmeter/least"
)

const maxCount = 1 << 40

var (
	rightBuckets = []int{1, 2, 3, 64, 255, 256}
	wrongBuckets = []int{math.MinInt, math.MinInt32, -257, -256, -2, -1, 0, 257, 258, 512, 1<<32 + 1, math.MaxInt}
	rightRooms   = []int{1, 2, 3, 4, 5, 6, 7, 8}
	wrongRooms   = []int{math.MinInt, math.MinInt32, -9, -8, -2, -1, 0, 9, 10, 16, 64, 256, 1<<32 + 1, math.MaxInt}
	rightVotes   = []int{1, 2, 3, 8, 32, 63, 64}
	wrongVotes   = []int{math.MinInt, math.MinInt32, -65, -64, -2, -1, 0, 65, 66, 128, 256, 1<<32 + 1, math.MaxInt}
	rightRows    = []int{1, 2, 3, 6, 7}
	wrongRows    = []int{math.MinInt, math.MinInt32, -8, -7, -2, -1, 0, 8, 9, 16, 256, 1<<32 + 1, math.MaxInt}
	rightCols    = []int{1, 2, 8, 255, 256}
	wrongCols    = []int{math.MinInt, math.MinInt32, -257, -256, -2, -1, 0, 257, 258, 512, 1<<32 + 1, math.MaxInt}
	// Some seeds differ by the prime alone: their keys have the same buckets and cells. Of the last one the Row 0 is 0.
	seeds = []uint64{0, 1, 2, 7, api.P - 3, api.P - 1, api.P, api.P + 1, 1 << 61, 1 << 63, math.MaxUint64 - 2, math.MaxUint64, 1152921504606846970}
	// wrongCounts are neither votes of an entry nor votes against entries.
	wrongCounts = []int{math.MinInt, math.MinInt + 1, -maxCount, -256, -2, -1, maxCount + 1, maxCount + 2, 2 * maxCount, math.MaxInt}
)

// keys are of no byte, of one and of many.
func keys() []string {
	source := rand.New(rand.NewSource(40))
	list := []string{"", "a", "b", "\x00", "\xff", "\x00\x00", "ab", "abc", "abcd", "abcde", "é", strings.Repeat("long", 500) + "er"}
	for range 12 {
		some := make([]byte, api.KeyBytes)
		source.Read(some)
		list = append(list, string(some))
	}
	return list
}

// shape is what New is given.
type shape struct {
	seed                             uint64
	buckets, room, votes, rows, cols int
}

// shapes are of the edges and of the middle.
func shapes() []shape {
	return []shape{
		{1, 1, 1, 1, 1, 1}, {1, 1, 1, 2, 1, 8}, {0, 1, 8, 1, 1, 8}, {7, 1, 3, 64, 2, 16}, {api.P, 2, 1, 3, 3, 5},
		{math.MaxUint64, 3, 2, 1, 7, 2}, {2, 8, 4, 8, 2, 32}, {1 << 63, 64, 2, 2, 3, 64}, {9, 256, 8, 64, 7, 256}, {4, 5, 1, 1, 2, 4},
	}
}

// bare is a new sketch, laid by hand.
func bare(h shape) Sketch {
	s := Sketch{Seed: h.seed, Room: h.room, Votes: h.votes, Buckets: make([]Bucket, h.buckets)}
	s.Light = least.Sketch{Seed: hash.Row(h.seed, 1), Most: 255}
	for range h.rows {
		s.Light.Rows = append(s.Light.Rows, make([]int, h.cols))
	}
	return s
}

// drawn is a sketch of any entries and any light ones, many of them at the ends; no bucket has more entries than room.
func drawn(source *rand.Rand, h shape) Sketch {
	s := bare(h)
	count := func(least int) int {
		switch source.Intn(8) {
		case 0:
			return maxCount
		case 1:
			return maxCount - 1 + source.Intn(2)
		case 2:
			return least
		case 3:
			return least + source.Intn(1000)
		}
		return least + source.Intn(4)
	}
	for i := range s.Buckets {
		b := &s.Buckets[i]
		b.Against = count(0)
		// The keys are numbered, and so unlike, and may be of any bucket.
		first := source.Intn(20)
		for j := range source.Intn(h.room + 1) {
			b.Entries = append(b.Entries, Entry{numbered(first + j), count(1), source.Intn(2) == 0})
		}
		source.Shuffle(len(b.Entries), func(i, j int) { b.Entries[i], b.Entries[j] = b.Entries[j], b.Entries[i] })
	}
	for _, row := range s.Light.Rows {
		for at := range row {
			row[at] = []int{0, 0, 1, 5, 200, 253, 254, 255}[source.Intn(8)]
		}
	}
	return s
}

func numbered(n int) string { return fmt.Sprintf("key %d", n) }

// apart is a sketch of the same, in memory of its own.
func apart(s Sketch) Sketch {
	o := s
	o.Buckets, o.Light.Rows = nil, nil
	for _, b := range s.Buckets {
		o.Buckets = append(o.Buckets, Bucket{slices.Clone(b.Entries), b.Against})
	}
	for _, row := range s.Light.Rows {
		o.Light.Rows = append(o.Light.Rows, slices.Clone(row))
	}
	return o
}

// same: a list that is nil and one that is empty are the same.
func same(a, b Sketch) bool {
	return a.Seed == b.Seed && a.Room == b.Room && a.Votes == b.Votes &&
		slices.EqualFunc(a.Buckets, b.Buckets, sameBucket) && sameLight(a.Light, b.Light)
}

func sameBucket(a, b Bucket) bool {
	return a.Against == b.Against && slices.Equal(a.Entries, b.Entries)
}

func sameLight(a, b least.Sketch) bool {
	return a.Seed == b.Seed && a.Most == b.Most && slices.EqualFunc(a.Rows, b.Rows, slices.Equal[[]int])
}

// scribble writes over all that a sketch holds in lists.
func scribble(s Sketch) {
	for i := range s.Buckets {
		b := &s.Buckets[i]
		for j := range b.Entries {
			b.Entries[j] = Entry{"scribbled", -9, true}
		}
		// What lies behind a list may be another's.
		behind := b.Entries[:cap(b.Entries)]
		for j := range behind {
			behind[j] = Entry{"scribbled", -9, true}
		}
		b.Against = -9
	}
	for _, row := range s.Light.Rows {
		for at := range row {
			row[at] = -9
		}
	}
}

// plainBucket is the bucket by the words of the chapter.
func plainBucket(s Sketch, key string) int {
	return hash.Cell(hash.Row(s.Seed, 0), key, len(s.Buckets))
}

// plainCells are the cells in Light by the words of layers 11 and 15.
func plainCells(s Sketch, key string) []int {
	var list []int
	for i, row := range s.Light.Rows {
		list = append(list, hash.Cell(hash.Row(hash.Row(s.Seed, 1), i), key, len(row)))
	}
	return list
}

// plainLight brings so many of a key to the light ones, one by one as far as that tells.
func plainLight(s Sketch, key string, n int) {
	for i, at := range plainCells(s, key) {
		for range min(n, 300) {
			if s.Light.Rows[i][at] < 255 {
				s.Light.Rows[i][at]++
			}
		}
	}
}

// plainAdd is Add by the words of the chapter.
func plainAdd(s Sketch, key string) (Sketch, api.Errno) {
	s = apart(s)
	b := &s.Buckets[plainBucket(s, key)]
	for i := range b.Entries {
		if b.Entries[i].Key == key {
			if b.Entries[i].Votes == maxCount {
				return Sketch{}, api.ErrFull
			}
			b.Entries[i].Votes++
			return s, api.OK
		}
	}
	if len(b.Entries) < s.Room {
		b.Entries = append(b.Entries, Entry{key, 1, false})
		return s, api.OK
	}
	if b.Against == maxCount {
		return Sketch{}, api.ErrFull
	}
	b.Against++
	var votes []int
	for _, e := range b.Entries {
		votes = append(votes, e.Votes)
	}
	fewest := slices.Min(votes)
	if at := slices.Index(votes, fewest); b.Against >= s.Votes*fewest {
		plainLight(s, b.Entries[at].Key, fewest)
		b.Entries[at] = Entry{key, 1, true}
		b.Against = 0
		return s, api.OK
	}
	plainLight(s, key, 1)
	return s, api.OK
}

// told is what Get tells.
type told struct {
	from, to    int
	exact, full bool
}

func get(s Sketch, key string) told {
	from, to, exact, full := Get(s, key)
	return told{from, to, exact, full}
}

// plainGet is Get by the words of the chapter.
func plainGet(s Sketch, key string) told {
	votes := 0
	for _, e := range s.Buckets[plainBucket(s, key)].Entries {
		if e.Key == key {
			if !e.Flag {
				return told{e.Votes, e.Votes, true, false}
			}
			votes = e.Votes
		}
	}
	var cells []int
	for i, at := range plainCells(s, key) {
		cells = append(cells, s.Light.Rows[i][at])
	}
	n := slices.Min(cells)
	return told{votes, votes + n, n == 0, n == 255}
}

// plainList is List by the words of the chapter.
func plainList(s Sketch, most int) []heavy.Item {
	var list []heavy.Item
	for _, b := range s.Buckets {
		for _, e := range b.Entries {
			if e.Votes < most {
				continue
			}
			list = append(list, heavy.Item{Key: e.Key, Count: e.Votes})
		}
	}
	sort.SliceStable(list, func(i, j int) bool { return list[i].Key < list[j].Key })
	sort.SliceStable(list, func(i, j int) bool { return list[i].Count > list[j].Count })
	return list
}

func mustNew(t *testing.T, h shape) Sketch {
	t.Helper()
	s, err := New(h.seed, h.buckets, h.room, h.votes, h.rows, h.cols)
	if err != api.OK {
		t.Fatalf("New of %+v: error %d", h, err)
	}
	return s
}

// mustAdd holds that what is told is a right sketch, and that the one that was given stays.
func mustAdd(t *testing.T, s Sketch, key string) Sketch {
	t.Helper()
	before := apart(s)
	o, err := Add(s, key)
	if err != api.OK || !Right(o) {
		t.Fatalf("Add(%+v, %q) = %+v, %d", s, key, o, err)
	}
	if !same(s, before) {
		t.Fatalf("Add of %q made %+v of %+v", key, s, before)
	}
	return o
}

func withAll(t *testing.T, s Sketch, keys ...string) Sketch {
	t.Helper()
	for _, key := range keys {
		s = mustAdd(t, s, key)
	}
	return s
}

// mustNotAdd holds that nothing but the error is told, and that what was given stays.
func mustNotAdd(t *testing.T, s Sketch, key string, want api.Errno) {
	t.Helper()
	before := apart(s)
	if o, err := Add(s, key); err != want || !reflect.DeepEqual(o, Sketch{}) {
		t.Fatalf("Add(%+v, %q) = %+v, %d, not the error %d alone", s, key, o, err, want)
	}
	if !same(s, before) {
		t.Fatalf("Add of %q made %+v of %+v", key, s, before)
	}
}

func mustGet(t *testing.T, s Sketch, key string, want told) {
	t.Helper()
	if got := get(s, key); got != want {
		t.Fatalf("Get(%+v, %q) = %+v, want %+v", s, key, got, want)
	}
}

func mustList(t *testing.T, s Sketch, most int, want ...heavy.Item) {
	t.Helper()
	if got := List(s, most); !slices.Equal(got, want) {
		t.Fatalf("List(%+v, %d) = %v, want %v", s, most, got, want)
	}
}

// P15.1: New.

func TestNew(t *testing.T) {
	for _, seed := range seeds {
		for _, buckets := range rightBuckets {
			for _, room := range []int{1, 2, 7, 8} {
				for _, votes := range []int{1, 2, 63, 64} {
					for _, rows := range []int{1, 2, 7} {
						for _, cols := range []int{1, 8, 256} {
							mustBeNew(t, shape{seed, buckets, room, votes, rows, cols})
						}
					}
				}
			}
		}
	}
}

func mustBeNew(t *testing.T, h shape) {
	t.Helper()
	s := mustNew(t, h)
	if !same(s, bare(h)) || !Right(s) {
		t.Fatalf("New of %+v = %+v", h, s)
	}
	mustGet(t, s, "a", told{0, 0, true, false})
	mustList(t, s, math.MinInt)
}

func TestNewOfEachNumber(t *testing.T) {
	hold := func(h shape) {
		t.Helper()
		want := h.buckets >= 1 && h.buckets <= 256 && h.room >= 1 && h.room <= 8 && h.votes >= 1 && h.votes <= 64 &&
			h.rows >= 1 && h.rows <= 7 && h.cols >= 1 && h.cols <= 256
		s, err := New(h.seed, h.buckets, h.room, h.votes, h.rows, h.cols)
		if want && (err != api.OK || !same(s, bare(h))) {
			t.Fatalf("New of %+v = %+v, %d", h, s, err)
		}
		if !want && (err != api.ErrArg || !reflect.DeepEqual(s, Sketch{})) {
			t.Fatalf("New of %+v = %+v, %d, not the error alone", h, s, err)
		}
	}
	for n := -300; n <= 600; n++ {
		for _, h := range []shape{{1, 1, 1, 1, 1, 1}, {math.MaxUint64, 256, 8, 64, 7, 256}} {
			for _, turned := range turns(h, n) {
				hold(turned)
			}
		}
	}
	for _, h := range shapes() {
		for _, list := range [][]int{wrongBuckets, wrongRooms, wrongVotes, wrongRows, wrongCols, rightBuckets, rightRooms, rightVotes, rightRows, rightCols} {
			for _, n := range list {
				for _, turned := range turns(h, n) {
					hold(turned)
				}
			}
		}
	}
}

// turns are shapes in which one number is another one.
func turns(h shape, n int) []shape {
	list := []shape{h, h, h, h, h}
	list[0].buckets = n
	list[1].room = n
	list[2].votes = n
	list[3].rows = n
	list[4].cols = n
	return list
}

func TestNewOfSeveralWrongNumbers(t *testing.T) {
	for _, buckets := range []int{-1, 0, 1, 257} {
		for _, room := range []int{-1, 0, 1, 9} {
			for _, votes := range []int{-1, 0, 1, 65} {
				for _, rows := range []int{-1, 0, 1, 8} {
					for _, cols := range []int{-1, 0, 1, 257} {
						s, err := New(1, buckets, room, votes, rows, cols)
						if buckets == 1 && room == 1 && votes == 1 && rows == 1 && cols == 1 {
							continue
						}
						if err != api.ErrArg || !reflect.DeepEqual(s, Sketch{}) {
							t.Fatalf("New(1, %d, %d, %d, %d, %d) = %+v, %d", buckets, room, votes, rows, cols, s, err)
						}
					}
				}
			}
		}
	}
}

// Neither two new sketches nor two buckets of one share any memory.
func TestNewSketchesShareNothing(t *testing.T) {
	h := shape{1, 3, 2, 2, 2, 8}
	s, o := mustNew(t, h), mustNew(t, h)
	for i := range s.Buckets {
		s.Buckets[i].Entries = append(s.Buckets[i].Entries, Entry{numbered(i), 1, false})
	}
	for i := range s.Buckets {
		if s.Buckets[i].Entries[0].Key != numbered(i) {
			t.Errorf("a bucket's entry is another's: %+v", s)
		}
	}
	scribble(s)
	if !same(o, bare(h)) || !same(mustNew(t, h), bare(h)) {
		t.Errorf("what one sketch holds is another's: %+v", o)
	}
}

// The seed of Light is a row's, which none of the seeds is itself.
func TestNewLight(t *testing.T) {
	for _, c := range []struct{ seed, want uint64 }{{0, 196}, {1, 289}, {2, 400}, {7, 1225}, {api.P, 196}, {api.P - 3, 25}, {api.P - 2, 64}} {
		s := mustNew(t, shape{c.seed, 1, 1, 1, 1, 1})
		if s.Light.Seed != c.want || s.Seed != c.seed {
			t.Errorf("New of the seed %d has a Light of the seed %d, want %d", c.seed, s.Light.Seed, c.want)
		}
	}
}

// P15.1: Right.

func TestRight(t *testing.T) {
	source := rand.New(rand.NewSource(41))
	for range 40 {
		for _, h := range shapes() {
			s := drawn(source, h)
			before := apart(s)
			if !Right(s) {
				t.Fatalf("Right(%+v) = false", s)
			}
			if !same(s, before) {
				t.Fatalf("%+v became %+v", before, s)
			}
		}
	}
}

func TestRightOfEachNumber(t *testing.T) {
	for n := range 520 {
		s := bare(shape{uint64(n), n, 1, 1, 1, 1})
		if got := Right(s); got != (n >= 1 && n <= 256) {
			t.Errorf("Right of %d buckets: %t", n, got)
		}
	}
	for n := -300; n <= 300; n++ {
		s := bare(shape{1, 2, n, 1, 1, 1})
		if got := Right(s); got != (n >= 1 && n <= 8) {
			t.Errorf("Right of the Room %d: %t", n, got)
		}
		s = bare(shape{1, 2, 1, n, 1, 1})
		if got := Right(s); got != (n >= 1 && n <= 64) {
			t.Errorf("Right of the Votes %d: %t", n, got)
		}
		s = bare(shape{1, 2, 1, 1, 1, 1})
		s.Light.Most = n
		if got := Right(s); got != (n == 255) {
			t.Errorf("Right of a Light of the Most %d: %t", n, got)
		}
		for _, number := range []int{n, n + maxCount - 150} {
			for at := range 3 {
				s = withOne(shape{1, 3, 1, 1, 1, 1}, at, Entry{"a", number, n%2 == 0})
				if got := Right(s); got != (number >= 1 && number <= maxCount) {
					t.Errorf("Right of an entry of %d votes: %t", number, got)
				}
				s = bare(shape{1, 3, 1, 1, 1, 1})
				s.Buckets[at].Against = number
				if got := Right(s); got != (number >= 0 && number <= maxCount) {
					t.Errorf("Right of %d votes against: %t", number, got)
				}
			}
		}
	}
}

// withOne is a sketch that has entries in one bucket alone.
func withOne(h shape, at int, entries ...Entry) Sketch {
	s := bare(h)
	s.Buckets[at].Entries = entries
	return s
}

// entries are so many, with unlike keys.
func entries(count int) []Entry {
	var list []Entry
	for i := range count {
		list = append(list, Entry{numbered(i), i + 1, i%2 == 1})
	}
	return list
}

func TestRightOfEachCountOfEntries(t *testing.T) {
	for room := 1; room <= 8; room++ {
		for count := range 12 {
			for at := range 4 {
				s := withOne(shape{1, 4, room, 1, 1, 1}, at, entries(count)...)
				if got := Right(s); got != (count <= room) {
					t.Errorf("Right of %d entries with room for %d: %t", count, room, got)
				}
			}
		}
	}
}

func TestRightOfKeysTwice(t *testing.T) {
	for count := 2; count <= 8; count++ {
		for i := range count {
			for j := range i {
				list := entries(count)
				list[i].Key = list[j].Key
				for at := range 3 {
					if s := withOne(shape{1, 3, 8, 1, 1, 1}, at, list...); Right(s) {
						t.Errorf("Right(%+v) = true", s)
					}
				}
			}
		}
	}
	// Of no byte, and with a byte 0 behind.
	for _, c := range []struct {
		a, b string
		want bool
	}{{"", "", false}, {"", "\x00", true}, {"a", "a\x00", true}, {"a", "A", true}, {"\x00", "\x00", false}} {
		if got := Right(withOne(shape{1, 1, 2, 1, 1, 1}, 0, Entry{c.a, 1, true}, Entry{c.b, 2, false})); got != c.want {
			t.Errorf("Right of the keys %q and %q in one bucket: %t", c.a, c.b, got)
		}
		s := withOne(shape{1, 2, 2, 1, 1, 1}, 0, Entry{c.a, 1, true})
		s.Buckets[1].Entries = []Entry{{c.b, 1, true}}
		if !Right(s) {
			t.Errorf("Right of the keys %q and %q in two buckets: false", c.a, c.b)
		}
	}
}

// The room behind a list does not make it longer.
func TestRightGoesByLength(t *testing.T) {
	s := bare(shape{1, 512, 2, 1, 16, 512})
	list := entries(12)
	list[3].Key, list[4].Votes = list[0].Key, 0
	for i := range s.Buckets {
		s.Buckets[i].Entries = list[:2]
	}
	s.Buckets[256].Against = -1
	s.Buckets = s.Buckets[:256]
	s.Light.Rows = s.Light.Rows[:7]
	for i := range s.Light.Rows {
		s.Light.Rows[i][256] = -1
		s.Light.Rows[i] = s.Light.Rows[i][:256]
	}
	if !Right(s) {
		t.Error("a sketch with room behind its lists is not right")
	}
	s.Buckets = s.Buckets[:257]
	if Right(s) {
		t.Error("a sketch of 257 buckets is right")
	}
}

// wrongSketches are wrong in one thing each, of several sketches.
func wrongSketches() []Sketch {
	source := rand.New(rand.NewSource(42))
	list := []Sketch{{}, {Seed: 1, Room: 1, Votes: 1}, {Seed: 1, Room: 1, Votes: 1, Buckets: []Bucket{{}}}}
	for _, h := range shapes() {
		for _, s := range []Sketch{bare(h), drawn(source, h)} {
			list = append(list, wrongly(s)...)
		}
	}
	for _, n := range wrongBuckets {
		if n >= 0 && n <= 600 {
			list = append(list, bare(shape{1, n, 1, 1, 1, 1}), bare(shape{1, n, 8, 64, 7, 256}))
		}
	}
	return list
}

// wrongly are sketches that differ from a right one in one thing, which makes them wrong.
func wrongly(s Sketch) []Sketch {
	var list []Sketch
	with := func(turn func(o *Sketch)) {
		o := apart(s)
		turn(&o)
		list = append(list, o)
	}
	for _, n := range wrongRooms {
		with(func(o *Sketch) { o.Room = n })
	}
	for _, n := range wrongVotes {
		with(func(o *Sketch) { o.Votes = n })
	}
	for at := range s.Buckets {
		if at > 2 && at < len(s.Buckets)-2 {
			continue
		}
		for _, n := range wrongCounts {
			with(func(o *Sketch) { o.Buckets[at].Against = n })
			with(func(o *Sketch) { o.Buckets[at].Entries = []Entry{{"a", n, false}} })
		}
		with(func(o *Sketch) { o.Buckets[at].Entries = []Entry{{"a", 0, true}} })
		with(func(o *Sketch) { o.Buckets[at].Entries = entries(o.Room + 1) })
		with(func(o *Sketch) { o.Room = 8; o.Buckets[at].Entries = append(entries(7), entries(1)...) })
	}
	return append(list, withWrongLight(s)...)
}

// withWrongLight are sketches of a Light that is not right, or not that of the sketch.
func withWrongLight(s Sketch) []Sketch {
	var list []Sketch
	with := func(turn func(l *least.Sketch)) {
		o := apart(s)
		turn(&o.Light)
		list = append(list, o)
	}
	for _, n := range []int{math.MinInt, -255, -1, 0, 1, 2, 254, 256, 257, 511, 65535, maxCount, maxCount + 1, math.MaxInt} {
		with(func(l *least.Sketch) { l.Most = n })
	}
	for _, n := range []uint64{hash.Row(s.Seed, 0), hash.Row(s.Seed, 2), s.Light.Seed + 1, s.Light.Seed - 1, s.Light.Seed + api.P, s.Light.Seed ^ 1<<63, s.Light.Seed ^ 1<<32} {
		with(func(l *least.Sketch) { l.Seed = n })
	}
	for _, n := range []int{-maxCount, -1, 256, maxCount} {
		with(func(l *least.Sketch) { l.Rows[len(l.Rows)-1][len(l.Rows[0])-1] = n })
		with(func(l *least.Sketch) { l.Rows[0][0] = n })
	}
	with(func(l *least.Sketch) { l.Rows = nil })
	with(func(l *least.Sketch) { l.Rows = make([][]int, len(l.Rows)) })
	with(func(l *least.Sketch) { l.Rows = append(l.Rows, []int{}) })
	with(func(l *least.Sketch) { l.Rows = append(l.Rows, make([]int, len(l.Rows[0])+1)) })
	with(func(l *least.Sketch) {
		for len(l.Rows) < 8 {
			l.Rows = append(l.Rows, make([]int, len(l.Rows[0])))
		}
	})
	with(func(l *least.Sketch) {
		for i := range l.Rows {
			l.Rows[i] = make([]int, 257)
		}
	})
	with(func(l *least.Sketch) { *l = least.Sketch{} })
	return list
}

func TestWrongSketches(t *testing.T) {
	for _, s := range wrongSketches() {
		before := apart(s)
		if Right(s) {
			t.Fatalf("Right(%+v) = true", s)
		}
		for _, key := range []string{"", "a", numbered(0), numbered(3), "never"} {
			mustNotAdd(t, s, key, api.ErrArg)
			mustGet(t, s, key, told{})
		}
		for _, most := range []int{math.MinInt, -1, 0, 1, maxCount} {
			mustList(t, s, most)
		}
		if !same(s, before) {
			t.Fatalf("%+v became %+v", before, s)
		}
	}
}

// Of a sketch that is not right nothing is told even of a key whose own bucket is right.
func TestWrongElsewhere(t *testing.T) {
	s := mustNew(t, shape{1, 8, 2, 2, 2, 16})
	s = withAll(t, s, "a", "a", "b", "c", "d")
	mustGet(t, s, "a", told{2, 2, true, false})
	at := (plainBucket(s, "a") + 1) % len(s.Buckets)
	s.Buckets[at].Against = maxCount + 1
	mustGet(t, s, "a", told{})
	mustList(t, s, 0)
	mustNotAdd(t, s, "a", api.ErrArg)
	// The wrong sketch is told ahead of the full entry.
	s.Buckets[plainBucket(s, "a")].Entries = []Entry{{"a", maxCount, false}}
	mustNotAdd(t, s, "a", api.ErrArg)
	s.Buckets[at].Against = maxCount
	mustNotAdd(t, s, "a", api.ErrFull)
}

// P15.2: Add.

func TestAddOfAnEntry(t *testing.T) {
	for _, votes := range []int{1, 2, 255, 256, maxCount - 2, maxCount - 1} {
		for _, flag := range []bool{false, true} {
			for _, against := range []int{0, 5, maxCount} {
				for count := 1; count <= 8; count++ {
					for i := range count {
						list := entries(count)
						list[i] = Entry{"here", votes, flag}
						s := withOne(shape{1, 1, count, 1, 2, 8}, 0, list...)
						s.Buckets[0].Against = against
						s.Light.Rows[0][3] = 9
						want := apart(s)
						want.Buckets[0].Entries[i].Votes = votes + 1
						if got := mustAdd(t, s, "here"); !same(got, want) {
							t.Fatalf("Add to %+v = %+v", s, got)
						}
					}
				}
			}
		}
	}
}

func TestAddOfAFullEntry(t *testing.T) {
	for _, flag := range []bool{false, true} {
		for count := 1; count <= 8; count++ {
			for i := range count {
				list := entries(count)
				list[i] = Entry{"here", maxCount, flag}
				mustNotAdd(t, withOne(shape{1, 1, 8, 1, 1, 8}, 0, list...), "here", api.ErrFull)
				mustNotAdd(t, withOne(shape{1, 1, count, 1, 1, 8}, 0, list...), "here", api.ErrFull)
			}
		}
	}
}

func TestAddWithRoom(t *testing.T) {
	for room := 1; room <= 8; room++ {
		for count := range room {
			for _, against := range []int{0, 1, 999, maxCount} {
				for _, key := range keys() {
					s := withOne(shape{1, 1, room, 1, 2, 8}, 0, entries(count)...)
					s.Buckets[0].Against = against
					want := apart(s)
					want.Buckets[0].Entries = append(want.Buckets[0].Entries, Entry{key, 1, false})
					if got := mustAdd(t, s, key); !same(got, want) {
						t.Fatalf("Add of %q to %+v = %+v", key, s, got)
					}
				}
			}
		}
	}
}

// A bucket without room: just below Votes times the fewest, at it and above it.
func TestAddWithoutRoom(t *testing.T) {
	for _, votes := range rightVotes {
		for _, fewest := range []int{1, 2, 3, 254, 255, 256, 1000} {
			for room := 1; room <= 8; room++ {
				for at := range room {
					list := entries(room)
					for i := range list {
						list[i].Votes = fewest + i + 1
					}
					list[at].Votes = fewest
					for _, against := range []int{0, 1, votes*fewest - 3, votes*fewest - 2, votes*fewest - 1, votes * fewest, votes*fewest + 1, maxCount - 1} {
						if against >= 0 {
							mustDispute(t, votes, list, against, at)
						}
					}
				}
			}
		}
	}
}

// mustDispute adds a key to a bucket of entries the one at at of which has the fewest votes.
func mustDispute(t *testing.T, votes int, list []Entry, against int, at int) {
	t.Helper()
	s := withOne(shape{1, 1, len(list), votes, 2, 64}, 0, slices.Clone(list)...)
	s.Buckets[0].Against = against
	want := apart(s)
	if against+1 >= votes*list[at].Votes {
		plainLight(want, list[at].Key, list[at].Votes)
		want.Buckets[0].Entries[at] = Entry{"new", 1, true}
		want.Buckets[0].Against = 0
	} else {
		plainLight(want, "new", 1)
		want.Buckets[0].Against = against + 1
	}
	if got := mustAdd(t, s, "new"); !same(got, want) {
		t.Fatalf("Add to %+v = %+v, want %+v", s, got, want)
	}
}

// Of several entries with the fewest votes the first one goes.
func TestAddTakesTheFirstOfTheFewest(t *testing.T) {
	source := rand.New(rand.NewSource(43))
	for range 2000 {
		list := entries(1 + source.Intn(8))
		for i := range list {
			list[i].Votes = 2 + source.Intn(2)
		}
		at := slices.IndexFunc(list, func(e Entry) bool { return e.Votes == 2 })
		if at < 0 {
			at = 0
		}
		mustDispute(t, 1, list, source.Intn(4), at)
	}
}

// Against of MaxCount counts where a key has neither an entry nor room, alone.
func TestAddOfFullAgainst(t *testing.T) {
	for room := 1; room <= 8; room++ {
		for _, votes := range rightVotes {
			for _, has := range []int{1, 2, maxCount} {
				list := entries(room)
				for i := range list {
					list[i].Votes = has
				}
				s := withOne(shape{1, 1, room, votes, 1, 8}, 0, list...)
				s.Buckets[0].Against = maxCount
				mustNotAdd(t, s, "new", api.ErrFull)
				mustNotAdd(t, s, "", api.ErrFull)
				s.Buckets[0].Against = maxCount - 1
				mustAdd(t, s, "new")
			}
		}
	}
	s := withOne(shape{1, 1, 2, 1, 1, 8}, 0, Entry{"a", 1, false})
	s.Buckets[0].Against = maxCount
	s = withAll(t, s, "a", "b", "b", "a")
	if want := (Bucket{[]Entry{{"a", 3, false}, {"b", 2, false}}, maxCount}); !sameBucket(s.Buckets[0], want) {
		t.Errorf("%+v", s)
	}
	mustNotAdd(t, s, "c", api.ErrFull)
}

// The greatest votes that there are go to Light, too, and count as 255 there.
func TestAddOfTheGreatestVotes(t *testing.T) {
	s := withOne(shape{1, 1, 1, 1, 2, 8}, 0, Entry{"a", maxCount, false})
	s.Buckets[0].Against = maxCount - 2
	want := apart(s)
	plainLight(want, "b", 1)
	want.Buckets[0].Against = maxCount - 1
	if s = mustAdd(t, s, "b"); !same(s, want) {
		t.Fatalf("%+v, want %+v", s, want)
	}
	plainLight(want, "a", 255)
	want.Buckets[0] = Bucket{[]Entry{{"b", 1, true}}, 0}
	if s = mustAdd(t, s, "b"); !same(s, want) {
		t.Fatalf("%+v, want %+v", s, want)
	}
	mustGet(t, s, "a", told{0, 255, false, true})
	// With the most Votes they never go.
	s = withOne(shape{1, 1, 1, 64, 2, 8}, 0, Entry{"a", maxCount, false})
	s.Buckets[0].Against = maxCount - 1
	s = mustAdd(t, s, "b")
	if !sameBucket(s.Buckets[0], Bucket{[]Entry{{"a", maxCount, false}}, maxCount}) {
		t.Errorf("%+v", s)
	}
}

// A key goes by the entries of its own bucket, whatever stands in the others.
func TestAddGoesByItsBucket(t *testing.T) {
	h := shape{3, 7, 1, 2, 1, 8}
	for _, key := range keys() {
		s := bare(h)
		at := plainBucket(s, key)
		for i := range s.Buckets {
			if i != at {
				s.Buckets[i] = Bucket{[]Entry{{key, maxCount, true}}, maxCount}
			}
		}
		want := apart(s)
		want.Buckets[at].Entries = []Entry{{key, 1, false}}
		s = mustAdd(t, s, key)
		if !same(s, want) {
			t.Fatalf("Add of %q = %+v, want %+v", key, s, want)
		}
		mustGet(t, s, key, told{1, 1, true, false})
	}
}

func TestAddAsTheWordsSay(t *testing.T) {
	source := rand.New(rand.NewSource(44))
	list := keys()
	for i := range 40 {
		list = append(list, numbered(i))
	}
	for _, h := range shapes() {
		for range 60 {
			s := drawn(source, h)
			for range 8 {
				key := list[source.Intn(len(list))]
				b := &s.Buckets[plainBucket(s, key)]
				// Mostly near the number of votes at which an entry goes.
				if fewest := fewestOf(b.Entries); source.Intn(4) > 0 {
					b.Against = min(max(s.Votes*fewest-2+source.Intn(4), 0), maxCount)
				}
				mustAddAsPlain(t, s, key)
			}
		}
	}
}

func fewestOf(list []Entry) int {
	fewest := 0
	for _, e := range list {
		if fewest == 0 || e.Votes < fewest {
			fewest = e.Votes
		}
	}
	return fewest
}

// mustAddAsPlain holds Add against the plain one, error and all.
func mustAddAsPlain(t *testing.T, s Sketch, key string) Sketch {
	t.Helper()
	want, err := plainAdd(s, key)
	if err != api.OK {
		mustNotAdd(t, s, key, err)
		return s
	}
	got := mustAdd(t, s, key)
	if !same(got, want) {
		t.Fatalf("Add of %q to %+v = %+v, want %+v", key, s, got, want)
	}
	return got
}

func TestRowsOfKeysAsTheWordsSay(t *testing.T) {
	source := rand.New(rand.NewSource(45))
	for _, h := range shapes() {
		for _, unlike := range []int{1, 2, 3, 10, 100, 2000} {
			s := mustNew(t, h)
			for range 300 {
				s = mustAddAsPlain(t, s, numbered(source.Intn(unlike)))
			}
		}
	}
}

// What is told shares no memory with what was given, whatever was done.
func TestAddSharesNothing(t *testing.T) {
	for _, key := range []string{"a", "b", "new", "other", "x"} {
		for _, room := range []int{2, 3, 8} {
			s := withOne(shape{1, 3, room, 1, 2, 8}, 0, Entry{"a", 1, false}, Entry{"b", 3, true})
			s.Buckets[1].Entries = []Entry{{"a", 1, false}, {"b", 3, true}}
			s.Buckets[2].Entries = []Entry{{"a", 1, false}, {"b", 3, true}}
			// All have room behind them that one could write into.
			for i := range s.Buckets {
				s.Buckets[i].Entries = append(make([]Entry, 0, 16), s.Buckets[i].Entries...)
			}
			before := apart(s)
			got := mustAdd(t, s, key)
			kept := apart(got)
			scribble(got)
			if !same(s, before) {
				t.Fatalf("what Add of %q told shares memory with what was given: %+v", key, s)
			}
			got = mustAdd(t, s, key)
			scribble(s)
			if !same(got, kept) {
				t.Fatalf("what was given to Add of %q shares memory with what was told: %+v", key, got)
			}
		}
	}
}

// Two sketches that were made of one go their own ways, and so do two buckets that shared a list.
func TestAddTwice(t *testing.T) {
	s := bare(shape{1, 1, 8, 1, 1, 8})
	s.Buckets[0].Entries = append(make([]Entry, 0, 8), Entry{"a", 1, false})
	one, other := mustAdd(t, s, "b"), mustAdd(t, s, "c")
	if !slices.Equal(one.Buckets[0].Entries, []Entry{{"a", 1, false}, {"b", 1, false}}) ||
		!slices.Equal(other.Buckets[0].Entries, []Entry{{"a", 1, false}, {"c", 1, false}}) {
		t.Errorf("%+v, %+v", one, other)
	}
	one2, other2 := mustAdd(t, one, "d"), mustAdd(t, one, "e")
	if one2.Buckets[0].Entries[2].Key != "d" || other2.Buckets[0].Entries[2].Key != "e" {
		t.Errorf("%+v, %+v", one2, other2)
	}
	shared := append(make([]Entry, 0, 8), Entry{"a", 1, false})
	s = bare(shape{1, 5, 8, 1, 1, 8})
	for i := range s.Buckets {
		s.Buckets[i].Entries = shared
	}
	at := plainBucket(s, "a")
	for i, b := range mustAdd(t, s, "a").Buckets {
		if (b.Entries[0].Votes == 2) != (i == at) {
			t.Errorf("a came to the bucket %d, and bucket %d has %+v", at, i, b)
		}
	}
}

// P15.3: Get.

func TestGet(t *testing.T) {
	for _, votes := range []int{1, 2, 255, 256, maxCount} {
		for _, number := range []int{0, 1, 2, 100, 253, 254, 255} {
			for _, rows := range rightRows {
				s := withOne(shape{1, 1, 3, 1, rows, 8}, 0, Entry{"plain", votes, false}, Entry{"flag", votes, true})
				for i := range s.Light.Rows {
					for at := range s.Light.Rows[i] {
						s.Light.Rows[i][at] = number
					}
				}
				before := apart(s)
				mustGet(t, s, "plain", told{votes, votes, true, false})
				mustGet(t, s, "flag", told{votes, votes + number, number == 0, number == 255})
				mustGet(t, s, "none", told{0, number, number == 0, number == 255})
				mustGet(t, s, "", told{0, number, number == 0, number == 255})
				if !same(s, before) {
					t.Fatalf("%+v became %+v", before, s)
				}
			}
		}
	}
}

// The least cell tells, and Light is full only where each one is.
func TestGetGoesByTheLeastCell(t *testing.T) {
	for _, number := range []int{0, 1, 254, 255} {
		for i := range 3 {
			s := withOne(shape{1, 1, 1, 1, 3, 8}, 0, Entry{"flag", 7, true})
			for _, key := range []string{"flag", "none"} {
				for j, at := range plainCells(s, key) {
					s.Light.Rows[j][at] = 255
				}
				s.Light.Rows[i][plainCells(s, key)[i]] = number
			}
			// The second key may have written over a cell of the first one.
			mustGet(t, s, "none", told{0, number, number == 0, number == 255})
			mustGet(t, s, "flag", plainGet(s, "flag"))
		}
	}
}

func TestGetAsTheWordsSay(t *testing.T) {
	source := rand.New(rand.NewSource(46))
	list := keys()
	for i := range 30 {
		list = append(list, numbered(i))
	}
	for _, h := range shapes() {
		for range 30 {
			s := drawn(source, h)
			before := apart(s)
			for _, key := range list {
				mustGet(t, s, key, plainGet(s, key))
			}
			if !same(s, before) {
				t.Fatalf("%+v became %+v", before, s)
			}
		}
	}
}

// A key goes by its own bucket alone, in Get too.
func TestGetGoesByItsBucket(t *testing.T) {
	for _, key := range keys() {
		s := bare(shape{3, 7, 1, 2, 1, 8})
		at := plainBucket(s, key)
		for i := range s.Buckets {
			s.Buckets[i].Entries = []Entry{{key, i + 2, i%2 == 0}}
		}
		mustGet(t, s, key, told{at + 2, at + 2, true, false})
		s.Buckets[at].Entries = nil
		mustGet(t, s, key, told{0, 0, true, false})
	}
}

// P15.3: List.

func TestList(t *testing.T) {
	s := bare(shape{1, 4, 3, 1, 1, 8})
	s.Buckets[0].Entries = []Entry{{"b", 5, true}, {"a", 5, false}, {"", 1, false}}
	s.Buckets[2].Entries = []Entry{{"c", 5, false}, {"a", 7, true}}
	s.Buckets[3].Entries = []Entry{{"z", maxCount, false}, {"b", 5, false}, {"\xff", 1, true}}
	// Neither what stands against entries nor the light ones are entries.
	s.Buckets[1].Against = 9
	s.Light.Rows[0][1] = 9
	all := []heavy.Item{{Key: "z", Count: maxCount}, {Key: "a", Count: 7}, {Key: "a", Count: 5}, {Key: "b", Count: 5}, {Key: "b", Count: 5}, {Key: "c", Count: 5}, {Key: "", Count: 1}, {Key: "\xff", Count: 1}}
	before := apart(s)
	for _, c := range []struct{ most, count int }{
		{math.MinInt, 8}, {-maxCount, 8}, {-1, 8}, {0, 8}, {1, 8}, {2, 6}, {4, 6}, {5, 6}, {6, 2}, {7, 2}, {8, 1},
		{maxCount - 1, 1}, {maxCount, 1}, {maxCount + 1, 0}, {math.MaxInt, 0},
	} {
		mustList(t, s, c.most, all[:c.count]...)
	}
	if !same(s, before) {
		t.Errorf("%+v became %+v", before, s)
	}
}

func TestListAsTheWordsSay(t *testing.T) {
	source := rand.New(rand.NewSource(47))
	for _, h := range shapes() {
		for range 30 {
			s := drawn(source, h)
			before := apart(s)
			for _, most := range []int{math.MinInt, -1, 0, 1, 2, 3, 4, 5, 500, maxCount - 1, maxCount, maxCount + 1} {
				mustList(t, s, most, plainList(s, most)...)
			}
			if !same(s, before) {
				t.Fatalf("%+v became %+v", before, s)
			}
		}
	}
}

// There are up to 2,048 entries, more than any heap has keys.
func TestListOfAll(t *testing.T) {
	s := bare(shape{1, 256, 8, 1, 1, 8})
	var want []heavy.Item
	for i := range 2048 {
		b := &s.Buckets[i*5%256]
		b.Entries = append(b.Entries, Entry{fmt.Sprintf("%04d", i), 1 + i/512, i%3 == 0})
	}
	for _, count := range []int{4, 3, 2, 1} {
		for i := range 512 {
			want = append(want, heavy.Item{Key: fmt.Sprintf("%04d", (count-1)*512+i), Count: count})
		}
	}
	if !Right(s) {
		t.Fatal("not right")
	}
	for most := -1; most <= 5; most++ {
		count := 512 * (5 - max(most, 1))
		mustList(t, s, most, want[:count]...)
	}
}

func TestListSharesNothing(t *testing.T) {
	s := withAll(t, mustNew(t, shape{1, 2, 2, 2, 1, 8}), "a", "a", "b", "c")
	before := apart(s)
	one, other := List(s, 0), List(s, 0)
	want := slices.Clone(other)
	for i := range one {
		one[i] = heavy.Item{Key: "scribbled", Count: -1}
	}
	if !same(s, before) || !slices.Equal(other, want) || !slices.Equal(List(s, 0), want) {
		t.Errorf("what List told shares memory: %+v, %v", s, other)
	}
}

// P15.4.

// course is a sketch to which keys come, and how often each one came.
type course struct {
	s     Sketch
	came  map[string]int
	order []string
}

func (r *course) add(t *testing.T, key string) {
	t.Helper()
	s, err := Add(r.s, key)
	if err != api.OK {
		t.Fatalf("Add of %q: error %d", key, err)
	}
	r.s = s
	if r.came[key] == 0 {
		r.order = append(r.order, key)
	}
	r.came[key]++
}

// hold holds what is promised of each key, of those that never came too.
func (r *course) hold(t *testing.T) (exact, full int) {
	t.Helper()
	// How often keys came, by the row of Light and the cell there.
	cells := make([]map[int]int, len(r.s.Light.Rows))
	for i := range cells {
		cells[i] = map[int]int{}
	}
	for _, key := range r.order {
		for i, at := range plainCells(r.s, key) {
			cells[i][at] += r.came[key]
		}
	}
	for _, key := range append([]string{"never", "nor this"}, r.order...) {
		c, got := r.came[key], get(r.s, key)
		if got.from > c {
			t.Fatalf("%q came %d times, told from %d", key, c, got.from)
		}
		if got.exact {
			exact++
		}
		if got.full {
			full++
			continue
		}
		if got.to < c {
			t.Fatalf("%q came %d times, told to %d", key, c, got.to)
		}
		for i, at := range plainCells(r.s, key) {
			if got.to > cells[i][at] {
				t.Fatalf("%q came %d times, and its cell %d of the row %d %d, told to %d", key, c, at, i, cells[i][at], got.to)
			}
		}
		if got.exact && (got.from != c || got.to != c) {
			t.Fatalf("%q came %d times, told just %d to %d", key, c, got.from, got.to)
		}
	}
	return exact, full
}

func TestLongRows(t *testing.T) {
	source := rand.New(rand.NewSource(48))
	exact, full := 0, 0
	for _, h := range shapes() {
		for _, unlike := range []int{1, 2, 5, 30, 400} {
			r := course{mustNew(t, h), map[string]int{}, nil}
			for i := range 2400 {
				// Lower numbers come far more often than higher ones.
				n := source.Intn(1 + source.Intn(unlike))
				r.add(t, numbered(n))
				if i%600 == 599 {
					e, f := r.hold(t)
					exact, full = exact+e, full+f
				}
			}
		}
	}
	if exact == 0 || full == 0 {
		t.Errorf("%d keys were exact, %d full: one of these was not tried", exact, full)
	}
}

// Rows of keys of one bucket of several, and rows in which a flow goes and comes back.
func TestLongRowsOfOneBucket(t *testing.T) {
	source := rand.New(rand.NewSource(49))
	for _, h := range []shape{{5, 16, 2, 2, 2, 16}, {6, 256, 1, 1, 3, 32}, {8, 4, 8, 4, 1, 256}} {
		s := mustNew(t, h)
		var mine []string
		for i := 0; len(mine) < 12; i++ {
			if plainBucket(s, numbered(i)) == 1%h.buckets {
				mine = append(mine, numbered(i))
			}
		}
		r := course{s, map[string]int{}, nil}
		for range 1200 {
			r.add(t, mine[source.Intn(len(mine))])
			if source.Intn(10) == 0 {
				r.hold(t)
			}
		}
		for range 20 {
			key := mine[source.Intn(len(mine))]
			for range source.Intn(60) {
				r.add(t, key)
			}
			r.hold(t)
		}
		for i, b := range r.s.Buckets {
			if i != 1%h.buckets && !sameBucket(b, Bucket{}) {
				t.Fatalf("keys of one bucket came to another: %+v", b)
			}
		}
	}
}

// All votes are somewhere: those of entries, and, as long as no cell is full, each row of Light.
func TestNoVoteIsLost(t *testing.T) {
	source := rand.New(rand.NewSource(50))
	s := mustNew(t, shape{11, 4, 2, 3, 3, 128})
	for i := range 1500 {
		s, _ = Add(s, numbered(source.Intn(200)))
		votes := 0
		for _, item := range List(s, 0) {
			votes += item.Count
		}
		for _, row := range s.Light.Rows {
			light := 0
			for _, number := range row {
				light += number
			}
			if votes+light != i+1 && slices.Max(row) < 255 {
				t.Fatalf("of %d keys %d are entries' votes, and %d light ones", i+1, votes, light)
			}
		}
	}
}

// The examples.

func TestExamples(t *testing.T) {
	s := mustNew(t, shape{1, 1, 1, 2, 1, 8})
	s = withAll(t, s, "a")
	mustGet(t, s, "a", told{1, 1, true, false})
	mustList(t, s, 0, heavy.Item{Key: "a", Count: 1})
	s = mustAdd(t, s, "b")
	if !sameBucket(s.Buckets[0], Bucket{[]Entry{{"a", 1, false}}, 1}) {
		t.Fatalf("with one b: %+v", s)
	}
	s = mustAdd(t, s, "b")
	if !sameBucket(s.Buckets[0], Bucket{[]Entry{{"b", 1, true}}, 0}) {
		t.Fatalf("with two b: %+v", s)
	}
	// The seed 289 of Light makes unlike cells of both.
	if cells := [2]int{plainCells(s, "a")[0], plainCells(s, "b")[0]}; cells[0] == cells[1] {
		t.Fatalf("the cells are %v", cells)
	}
	mustGet(t, s, "a", told{0, 1, false, false})
	mustGet(t, s, "b", told{1, 2, false, false})
	mustList(t, s, 0, heavy.Item{Key: "b", Count: 1})
	mustList(t, s, 2)
}

// In a Light of one cell the first key's share is the second one's, too.
func TestExampleOfOneCell(t *testing.T) {
	s := withAll(t, mustNew(t, shape{1, 1, 1, 2, 1, 1}), "a", "b", "b")
	mustGet(t, s, "a", told{0, 2, false, false})
	mustGet(t, s, "b", told{1, 3, false, false})
	mustGet(t, s, "c", told{0, 2, false, false})
}
