package bloom

import (
	"math"
	"math/rand"
	"reflect"
	"slices"
	"strings"
	"testing"

	"rillmeter/api"
	"rillmeter/hash"
)

var (
	rightBits   = []int{1, 2, 3, 8, 63, 64, 65, 128, 255, 256}
	wrongBits   = []int{math.MinInt, math.MinInt32, -257, -256, -8, -1, 0, 257, 258, 512, 1 << 16, 1<<32 + 8, math.MaxInt}
	rightHashes = []int{1, 2, 3, 4, 5, 6, 7}
	wrongHashes = []int{math.MinInt, 1 - 1<<32, -8, -7, -2, -1, 0, 8, 9, 14, 256, 1<<32 + 1, math.MaxInt}
	// Some seeds differ by the prime alone: their keys have the same places.
	seeds = []uint64{0, 1, 2, 7, api.P - 3, api.P - 1, api.P, api.P + 1, 1 << 61, 1 << 63, math.MaxUint64 - 2, math.MaxUint64}
)

// keys are of no byte, of one and of many.
func keys() []string {
	source := rand.New(rand.NewSource(10))
	list := []string{"", "a", "b", "\x00", "\xff", "\x00\x00", "ab", "abc", "abcd", "abcde", "é", strings.Repeat("long", 500) + "er"}
	for range 12 {
		some := make([]byte, api.KeyBytes)
		source.Read(some)
		list = append(list, string(some))
	}
	return list
}

// none are so many bits, of which none is set, and all are as many that are.
func none(bits int) []bool { return make([]bool, bits) }

func all(bits int) []bool { return slices.Repeat([]bool{true}, bits) }

// some are so many bits, each third of which is set.
func some(bits int) []bool {
	list := none(bits)
	for at := 0; at < bits; at += 3 {
		list[at] = true
	}
	return list
}

// copied is a filter of the same, in memory of its own.
func copied(f Filter) Filter {
	return Filter{Seed: f.Seed, Hashes: f.Hashes, Bits: slices.Clone(f.Bits)}
}

// same: a list that is nil and one that is empty are the same.
func same(a, b Filter) bool {
	return a.Seed == b.Seed && a.Hashes == b.Hashes && slices.Equal(a.Bits, b.Bits)
}

// plainPlaces are the places by the words of the chapter.
func plainPlaces(seed uint64, bits, hashes int, key string) []int {
	var places []int
	for i := 0; i < hashes; i++ {
		places = append(places, hash.Cell(hash.Row(seed, i), key, bits))
	}
	return places
}

// rightFilters are of all edges, with no bit set, with some and with all.
func rightFilters() []Filter {
	var list []Filter
	for _, seed := range seeds {
		for _, hashes := range rightHashes {
			for _, bits := range rightBits {
				list = append(list, Filter{seed, hashes, none(bits)}, Filter{seed, hashes, some(bits)}, Filter{seed, hashes, all(bits)})
			}
		}
	}
	return list
}

// wrongFilters are wrong in their Bits, in their Hashes or in both.
func wrongFilters() []Filter {
	list := []Filter{{}, {Seed: 1}}
	for _, seed := range []uint64{0, 1, api.P, math.MaxUint64} {
		for _, hashes := range slices.Concat(rightHashes, wrongHashes) {
			for _, bits := range []int{257, 258, 300, 512} {
				list = append(list, Filter{seed, hashes, none(bits)}, Filter{seed, hashes, some(bits)}, Filter{seed, hashes, all(bits)})
			}
			list = append(list, Filter{seed, hashes, nil}, Filter{seed, hashes, []bool{}})
		}
		for _, hashes := range wrongHashes {
			for _, bits := range rightBits {
				list = append(list, Filter{seed, hashes, none(bits)}, Filter{seed, hashes, some(bits)}, Filter{seed, hashes, all(bits)})
			}
		}
	}
	return list
}

func mustNew(t *testing.T, seed uint64, bits, hashes int) Filter {
	t.Helper()
	f, err := New(seed, bits, hashes)
	if err != api.OK {
		t.Fatalf("New(%d, %d, %d): error %d", seed, bits, hashes, err)
	}
	return f
}

func mustMerge(t *testing.T, a, b Filter) Filter {
	t.Helper()
	m, err := Merge(a, b)
	if err != api.OK {
		t.Fatalf("Merge(%v, %v): error %d", a, b, err)
	}
	return m
}

// mustNotMerge holds that nothing but the error is told.
func mustNotMerge(t *testing.T, a, b Filter) {
	t.Helper()
	if m, err := Merge(a, b); err != api.ErrArg || !same(m, Filter{}) {
		t.Fatalf("Merge(%v, %v) = %v, %d, not the error alone", a, b, m, err)
	}
}

func withAll(f Filter, keys []string) Filter {
	for _, key := range keys {
		f = Add(f, key)
	}
	return f
}

// P10.1: New and Right.

func TestNew(t *testing.T) {
	for _, seed := range seeds {
		for _, bits := range rightBits {
			for _, hashes := range rightHashes {
				f := mustNew(t, seed, bits, hashes)
				if !reflect.DeepEqual(f, Filter{seed, hashes, none(bits)}) {
					t.Fatalf("New(%d, %d, %d) = %v", seed, bits, hashes, f)
				}
				if !Right(f) || Set(f) != 0 {
					t.Fatalf("New(%d, %d, %d): right %t, set %d", seed, bits, hashes, Right(f), Set(f))
				}
			}
		}
	}
}

func TestNewOfWrongNumbers(t *testing.T) {
	refused := func(seed uint64, bits, hashes int) {
		t.Helper()
		if f, err := New(seed, bits, hashes); err != api.ErrArg || !same(f, Filter{}) {
			t.Fatalf("New(%d, %d, %d) = %v, %d, not the error alone", seed, bits, hashes, f, err)
		}
	}
	for _, seed := range seeds {
		for _, bits := range wrongBits {
			for _, hashes := range slices.Concat(rightHashes, wrongHashes) {
				refused(seed, bits, hashes)
			}
		}
		for _, bits := range rightBits {
			for _, hashes := range wrongHashes {
				refused(seed, bits, hashes)
			}
		}
	}
}

func TestNewFiltersShareNothing(t *testing.T) {
	f, g := mustNew(t, 1, 8, 2), mustNew(t, 1, 8, 2)
	f.Bits[3] = true
	if Set(g) != 0 || Set(mustNew(t, 1, 8, 2)) != 0 {
		t.Errorf("a bit of one filter is another's: %v", g)
	}
}

func TestRight(t *testing.T) {
	for _, f := range rightFilters() {
		if !Right(f) {
			t.Fatalf("Right(%v) = false", f)
		}
	}
	for _, f := range wrongFilters() {
		if Right(f) {
			t.Fatalf("Right(%v) = true", f)
		}
	}
	for bits := range 600 {
		for hashes := -9; hashes <= 16; hashes++ {
			want := bits >= 1 && bits <= 256 && hashes >= 1 && hashes <= 7
			if got := Right(Filter{uint64(bits), hashes, none(bits)}); got != want {
				t.Fatalf("Right of %d bits and %d hashes: %t", bits, hashes, got)
			}
		}
	}
}

// A wrong filter's room behind its Bits does not make it right.
func TestRightGoesByLength(t *testing.T) {
	roomy := all(256)
	if Right(Filter{1, 2, roomy[:0]}) || !Right(Filter{1, 2, roomy[:1]}) {
		t.Error("Right goes by room")
	}
	if roomy = all(512); !Right(Filter{1, 2, roomy[:256]}) || Right(Filter{1, 2, roomy[:257]}) {
		t.Error("Right goes by room")
	}
}

// P10.1: filters that are not right.

func TestWrongFilters(t *testing.T) {
	for _, f := range wrongFilters() {
		before := copied(f)
		if n := Set(f); n != 0 {
			t.Fatalf("Set(%v) = %d", f, n)
		}
		for _, key := range []string{"", "a", "\x00", "abcde"} {
			if places := Places(f, key); len(places) != 0 {
				t.Fatalf("Places(%v, %q) = %v", f, key, places)
			}
			if Has(f, key) {
				t.Fatalf("Has(%v, %q) = true", f, key)
			}
			if g := Add(f, key); !same(g, before) {
				t.Fatalf("Add(%v, %q) = %v", f, key, g)
			}
		}
		if !same(f, before) {
			t.Fatalf("%v became %v", before, f)
		}
	}
}

func TestMergeOfWrongFilters(t *testing.T) {
	right := []Filter{{1, 2, none(8)}, {1, 1, all(1)}, {0, 7, some(256)}}
	for _, f := range wrongFilters() {
		before := copied(f)
		mustNotMerge(t, f, f)
		mustNotMerge(t, f, before)
		for _, g := range right {
			mustNotMerge(t, f, g)
			mustNotMerge(t, g, f)
		}
		// One that differs in nothing but what is wrong.
		for _, g := range []Filter{{f.Seed, 1, f.Bits}, {f.Seed, 7, f.Bits}, {f.Seed, f.Hashes, none(1)}, {f.Seed, f.Hashes, all(256)}} {
			mustNotMerge(t, f, g)
			mustNotMerge(t, g, f)
		}
		if !same(f, before) {
			t.Fatalf("%v became %v", before, f)
		}
	}
}

// P10.1: Places.

// The numbers were reckoned apart, by the words of layers 2 and 10.
func TestPlacesOfSomeKeys(t *testing.T) {
	long := make([]byte, api.KeyBytes)
	for i := range long {
		long[i] = byte(i)
	}
	for _, c := range []struct {
		seed         uint64
		bits, hashes int
		key          string
		want         []int
	}{
		{1, 8, 2, "a", []int{1, 5}},
		{1, 8, 7, "a", []int{1, 5, 1, 7, 1, 4, 1}},
		{0, 256, 7, "a", []int{111, 154, 221, 225, 229, 157, 1}},
		{7, 64, 3, "", []int{0, 0, 0}},
		{7, 64, 3, "\x00", []int{54, 8, 26}},
		{7, 64, 3, "\x00\x00", []int{0, 26, 2}},
		{7, 64, 3, "abcde", []int{60, 17, 0}},
		{math.MaxUint64, 256, 7, string(long), []int{178, 211, 146, 18, 68, 58, 110}},
		{api.P - 3, 16, 4, "xyz", []int{13, 13, 13, 13}},
		{5, 1, 3, "k", []int{0, 0, 0}},
		{3, 255, 7, "rill", []int{209, 105, 97, 98, 239, 182, 195}},
		{2, 3, 7, "rill", []int{2, 0, 2, 2, 2, 0, 1}},
		{api.P + 2, 3, 7, "rill", []int{2, 0, 2, 2, 2, 0, 1}},
	} {
		if got := Places(mustNew(t, c.seed, c.bits, c.hashes), c.key); !slices.Equal(got, c.want) {
			t.Errorf("Places of %d, %d, %d and %q: %v, want %v", c.seed, c.bits, c.hashes, c.key, got, c.want)
		}
	}
}

func TestPlaces(t *testing.T) {
	twice := 0
	for _, f := range rightFilters() {
		before := copied(f)
		for _, key := range keys() {
			got, want := Places(f, key), plainPlaces(f.Seed, len(f.Bits), f.Hashes, key)
			if !slices.Equal(got, want) {
				t.Fatalf("Places(%v, %q) = %v, want %v", f, key, got, want)
			}
			if !slices.IsSorted(want) && len(slices.Compact(slices.Sorted(slices.Values(want)))) < f.Hashes {
				twice++
			}
		}
		if !same(f, before) {
			t.Fatalf("%v became %v", before, f)
		}
	}
	if twice == 0 {
		t.Error("no key had a place twice, in an order that is not the rising one")
	}
}

// P10.1: Add.

func TestAdd(t *testing.T) {
	for _, f := range rightFilters() {
		before := copied(f)
		for _, key := range keys() {
			want := copied(before)
			for _, place := range plainPlaces(f.Seed, len(f.Bits), f.Hashes, key) {
				want.Bits[place] = true
			}
			got := Add(f, key)
			if !same(got, want) {
				t.Fatalf("Add(%v, %q) = %v, want %v", before, key, got, want)
			}
			if !Right(got) || !Has(got, key) {
				t.Fatalf("Add(%v, %q) = %v: right %t, has it %t", before, key, got, Right(got), Has(got, key))
			}
			if !same(f, before) {
				t.Fatalf("Add of %q: %v became %v", key, before, f)
			}
		}
	}
}

// Neither the room behind the Bits nor what another answer holds is written into.
func TestAddKeepsToItsOwnMemory(t *testing.T) {
	room := none(256)
	f := Filter{1, 7, room[:16]}
	grown := Add(f, "a")
	kept := copied(grown)
	for _, key := range keys() {
		Add(f, key)
		Add(grown, key)
		if !same(grown, kept) {
			t.Fatalf("Add of %q: %v became %v", key, kept, grown)
		}
	}
	if slices.Contains(room, true) {
		t.Errorf("what was handed in became %v", room)
	}
	grown.Bits[0] = !grown.Bits[0]
	if slices.Contains(room, true) {
		t.Error("what was answered is what was handed in")
	}
}

func TestAddTwiceIsAddOnce(t *testing.T) {
	for _, f := range rightFilters() {
		for _, key := range []string{"", "a", "abcde"} {
			if once := Add(f, key); !same(Add(once, key), once) {
				t.Fatalf("Add of %q twice to %v is not as once", key, f)
			}
		}
	}
}

// P10.1: Has and Set.

func TestHas(t *testing.T) {
	told := map[bool]int{}
	for _, f := range rightFilters() {
		before := copied(f)
		for _, key := range keys() {
			want := true
			for _, place := range plainPlaces(f.Seed, len(f.Bits), f.Hashes, key) {
				want = want && before.Bits[place]
			}
			if got := Has(f, key); got != want {
				t.Fatalf("Has(%v, %q) = %t", f, key, got)
			}
			told[want]++
		}
		if !same(f, before) {
			t.Fatalf("%v became %v", before, f)
		}
	}
	if told[true] == 0 || told[false] == 0 {
		t.Errorf("told: %v", told)
	}
}

// Each place of a key counts, the first one and the last one too.
func TestHasNeedsEachPlace(t *testing.T) {
	for _, hashes := range rightHashes {
		for _, key := range keys() {
			f := Add(mustNew(t, 9, 256, hashes), key)
			for _, place := range Places(f, key) {
				without := copied(f)
				without.Bits[place] = false
				if Has(without, key) {
					t.Fatalf("Has %q without its place %d of %v", key, place, Places(f, key))
				}
				only := mustNew(t, 9, 256, hashes)
				only.Bits[place] = true
				if Has(only, key) != (Set(f) == 1) {
					t.Fatalf("Has %q with its place %d alone of %v", key, place, Places(f, key))
				}
			}
		}
	}
}

// Of keys that were not added none is had while the filter is sparse enough, and each when it is full.
func TestHasOfKeysThatWereNotAdded(t *testing.T) {
	f := Add(mustNew(t, 1, 256, 7), "a")
	for _, key := range keys() {
		if Has(f, key) != (key == "a") {
			t.Errorf("of one with a alone: Has %q is %t", key, Has(f, key))
		}
		if Has(mustNew(t, 1, 256, 7), key) {
			t.Errorf("an empty filter has %q", key)
		}
		if !Has(Filter{1, 7, all(256)}, key) {
			t.Errorf("a full filter has not %q", key)
		}
	}
}

func TestSet(t *testing.T) {
	for _, seed := range seeds {
		for _, hashes := range rightHashes {
			for _, bits := range rightBits {
				for _, c := range []struct {
					list []bool
					want int
				}{{none(bits), 0}, {some(bits), (bits + 2) / 3}, {all(bits), bits}} {
					f := Filter{seed, hashes, c.list}
					before := copied(f)
					if got := Set(f); got != c.want {
						t.Fatalf("Set(%v) = %d, want %d", f, got, c.want)
					}
					if !same(f, before) {
						t.Fatalf("%v became %v", before, f)
					}
				}
			}
		}
	}
}

func TestSetOfOneBitAnywhere(t *testing.T) {
	for _, bits := range rightBits {
		for at := range bits {
			one, other := Filter{3, 2, none(bits)}, Filter{3, 2, all(bits)}
			one.Bits[at], other.Bits[at] = true, false
			if Set(one) != 1 || Set(other) != bits-1 {
				t.Fatalf("Set with the bit %d of %d alone: %d; without it: %d", at, bits, Set(one), Set(other))
			}
		}
	}
}

// P10.1: Merge.

func TestMergeOfFiltersThatDiffer(t *testing.T) {
	for _, list := range []func(int) []bool{none, some, all} {
		a := Filter{1, 2, list(8)}
		for _, b := range []Filter{
			{0, 2, list(8)}, {2, 2, list(8)}, {1 + api.P, 2, list(8)}, {1 + 1<<32, 2, list(8)}, {1 | 1<<63, 2, list(8)}, {math.MaxUint64, 2, list(8)},
			{1, 1, list(8)}, {1, 3, list(8)}, {1, 7, list(8)},
			{1, 2, list(1)}, {1, 2, list(7)}, {1, 2, list(9)}, {1, 2, list(256)},
			{2, 1, list(8)}, {2, 2, list(9)}, {1, 3, list(7)}, {0, 7, list(256)},
		} {
			keptA, keptB := copied(a), copied(b)
			mustNotMerge(t, a, b)
			mustNotMerge(t, b, a)
			if !same(a, keptA) || !same(b, keptB) {
				t.Fatalf("%v, %v became %v, %v", keptA, keptB, a, b)
			}
		}
	}
}

func TestMerge(t *testing.T) {
	source := rand.New(rand.NewSource(11))
	drawn := func(seed uint64, hashes, bits int) Filter {
		f := Filter{seed, hashes, none(bits)}
		for at := range f.Bits {
			f.Bits[at] = source.Intn(3) == 0
		}
		return f
	}
	for _, seed := range seeds {
		for _, hashes := range rightHashes {
			for _, bits := range rightBits {
				a, b := drawn(seed, hashes, bits), drawn(seed, hashes, bits)
				keptA, keptB, want := copied(a), copied(b), Filter{seed, hashes, none(bits)}
				for at := range want.Bits {
					want.Bits[at] = a.Bits[at] || b.Bits[at]
				}
				m, turned := mustMerge(t, a, b), mustMerge(t, b, a)
				if !same(m, want) || !same(turned, want) {
					t.Fatalf("Merge(%v, %v) = %v, turned about %v, want %v", a, b, m, turned, want)
				}
				if !Right(m) {
					t.Fatalf("Merge(%v, %v) = %v, which is not right", a, b, m)
				}
				if !same(a, keptA) || !same(b, keptB) {
					t.Fatalf("%v, %v became %v, %v", keptA, keptB, a, b)
				}
			}
		}
	}
}

func TestMergeWithItselfAnEmptyOneAndAFullOne(t *testing.T) {
	for _, f := range rightFilters() {
		before := copied(f)
		empty, full := Filter{f.Seed, f.Hashes, none(len(f.Bits))}, Filter{f.Seed, f.Hashes, all(len(f.Bits))}
		for _, m := range []Filter{mustMerge(t, f, f), mustMerge(t, f, before), mustMerge(t, f, empty), mustMerge(t, empty, f)} {
			if !same(m, before) {
				t.Fatalf("%v with itself or an empty one is %v", before, m)
			}
		}
		for _, m := range []Filter{mustMerge(t, f, full), mustMerge(t, full, f)} {
			if !same(m, full) {
				t.Fatalf("%v with a full one is %v", before, m)
			}
		}
		if !same(f, before) || Set(empty) != 0 || Set(full) != len(f.Bits) {
			t.Fatalf("%v, an empty one and a full one became %v, %v and %v", before, f, empty, full)
		}
	}
}

func TestMergeKeepsToItsOwnMemory(t *testing.T) {
	roomA, roomB := none(256), none(256)
	a, b := Filter{1, 2, roomA[:8]}, Filter{1, 2, roomB[:8]}
	m := mustMerge(t, a, b)
	kept := copied(m)
	mustMerge(t, m, Filter{1, 2, all(8)})
	if !same(m, kept) {
		t.Errorf("%v became %v", kept, m)
	}
	for at := range m.Bits {
		m.Bits[at] = true
	}
	if slices.Contains(roomA, true) || slices.Contains(roomB, true) {
		t.Error("what was answered is what was handed in")
	}
}

// The chapter's example.

func TestExample(t *testing.T) {
	f := Add(mustNew(t, 1, 8, 2), "a")
	if n := Set(f); !Has(f, "a") || n < 1 || n > 2 {
		t.Errorf("%v: has a %t, set %d", f, Has(f, "a"), n)
	}
	if want := []bool{false, true, false, false, false, true, false, false}; !slices.Equal(f.Bits, want) {
		t.Errorf("Bits are %v, want %v", f.Bits, want)
	}
}

// P10.2.

func TestAFilterHasWhatWasAdded(t *testing.T) {
	for _, seed := range seeds {
		for _, hashes := range rightHashes {
			for _, bits := range rightBits {
				f := mustNew(t, seed, bits, hashes)
				for i, key := range keys() {
					f = Add(f, key)
					for _, earlier := range keys()[:i+1] {
						if !Has(f, earlier) {
							t.Fatalf("%v has not %q, which was added", f, earlier)
						}
					}
				}
			}
		}
	}
}

func TestTheOrderDoesNotMatter(t *testing.T) {
	source := rand.New(rand.NewSource(12))
	for _, bits := range rightBits {
		for _, hashes := range rightHashes {
			list := keys()
			empty := mustNew(t, 5, bits, hashes)
			want := withAll(empty, list)
			for range 5 {
				source.Shuffle(len(list), func(i, j int) { list[i], list[j] = list[j], list[i] })
				if got := withAll(empty, list); !same(got, want) {
					t.Fatalf("in another order: %v, not %v", got, want)
				}
			}
			if got := withAll(withAll(empty, list), list[:5]); !same(got, want) {
				t.Fatalf("some of them once more: %v, not %v", got, want)
			}
		}
	}
}

func TestMergedIsAllAdded(t *testing.T) {
	for _, seed := range seeds {
		for _, bits := range rightBits {
			for _, hashes := range rightHashes {
				list, empty := keys(), mustNew(t, seed, bits, hashes)
				want := withAll(empty, list)
				for _, cut := range []int{0, 1, 7, len(list) / 2, len(list) - 1, len(list)} {
					m := mustMerge(t, withAll(empty, list[:cut]), withAll(empty, list[cut:]))
					if !same(m, want) {
						t.Fatalf("merged at %d: %v, not %v", cut, m, want)
					}
					for _, key := range list {
						if !Has(m, key) {
							t.Fatalf("merged at %d: %v has not %q", cut, m, key)
						}
					}
				}
			}
		}
	}
}
