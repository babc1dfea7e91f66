package heavy

import (
	"math"
	"math/rand"
	"slices"
	"strconv"
	"strings"
	"testing"

	"rillmeter/api"
)

var (
	rightRooms = []int{1, 2, 3, 4, 5, 7, 8, 31, 63, 64}
	wrongRooms = []int{math.MinInt, math.MinInt + 1, math.MinInt32, -65, -64, -2, -1, 0, 65, 66, 127, 128, 1 << 32, 1<<32 + 1, math.MaxInt}
	// counts are of both ends and of the middle; two of them lie so far apart that their difference wraps round.
	counts = []int{math.MinInt, math.MinInt + 1, -api.MaxCount, -2, -1, 0, 1, 2, 3, api.MaxCount, math.MaxInt - 1, math.MaxInt}
	// keys stand by rising bytes: of no byte, of one and of many, with such as begin with another.
	keys = []string{"", "\x00", "\x00\x00", "\x00a", "A", "B", "a", "a\x00", "aa", "aaa", "ab", "abc", "abcd", "b", "ba", "é", "\xff", "\xff\x00", "\xff\xff"}
)

// plain is a heap by the words of the chapter: its keys, as they stand.
type plain struct {
	room int
	list []Item
}

// ahead is the order by the words of the chapter.
func ahead(a, b Item) bool {
	return a.Count > b.Count || a.Count == b.Count && a.Key < b.Key
}

func (p *plain) at(key string) int {
	return slices.IndexFunc(p.list, func(item Item) bool { return item.Key == key })
}

func (p *plain) offer(key string, count int) bool {
	at, end := p.at(key), len(p.list)-1
	switch {
	case at >= 0:
		p.list = slices.Delete(p.list, at, at+1)
	case len(p.list) < p.room:
	case count > p.list[end].Count:
		p.list = p.list[:end]
	default:
		return false
	}
	item := Item{key, count}
	to := 0
	for to < len(p.list) && ahead(p.list[to], item) {
		to++
	}
	p.list = slices.Insert(p.list, to, item)
	return true
}

// both is a heap and what it must be.
type both struct {
	t *testing.T
	h *Heap
	p *plain
}

func newBoth(t *testing.T, room int) both {
	t.Helper()
	b := both{t, New(room), &plain{room: room}}
	b.hold()
	return b
}

// hold holds all that a heap tells against what it must be.
func (b both) hold() {
	b.t.Helper()
	if !b.h.Check() {
		b.t.Fatalf("%v does not lie as it must", b.h)
	}
	if got := b.h.Len(); got != len(b.p.list) || got > b.p.room {
		b.t.Fatalf("Len() = %d, want %d of %d", got, len(b.p.list), b.p.room)
	}
	if got := b.h.List(); !slices.Equal(got, b.p.list) {
		b.t.Fatalf("List() = %v, want %v", got, b.p.list)
	}
	want := Item{}
	if len(b.p.list) > 0 {
		want = b.p.list[len(b.p.list)-1]
	}
	if got, ok := b.h.Last(); got != want || ok != (len(b.p.list) > 0) {
		b.t.Fatalf("Last() = %v, %t, want %v of %v", got, ok, want, b.p.list)
	}
	for _, item := range b.p.list {
		mustGet(b.t, b.h, item.Key, item.Count)
	}
	if !b.h.Check() {
		b.t.Fatalf("%v does not lie as it must once asked", b.h)
	}
}

// offer holds all ahead of the next one.
func (b both) offer(key string, count int) bool {
	b.t.Helper()
	want := b.p.offer(key, count)
	if got := b.h.Offer(key, count); got != want {
		b.t.Fatalf("Offer(%q, %d) = %t, want %t: %v", key, count, got, want, b.p.list)
	}
	b.hold()
	if at := b.p.at(key); at < 0 {
		mustNotGet(b.t, b.h, key)
	}
	return want
}

func mustGet(t *testing.T, h *Heap, key string, want int) {
	t.Helper()
	if got, ok := h.Get(key); got != want || !ok {
		t.Fatalf("Get(%q) = %d, %t, want %d", key, got, ok, want)
	}
}

func mustNotGet(t *testing.T, h *Heap, key string) {
	t.Helper()
	if got, ok := h.Get(key); got != 0 || ok {
		t.Fatalf("Get(%q) = %d, %t, of one that is not there", key, got, ok)
	}
}

func mustOffer(t *testing.T, h *Heap, key string, count int, want bool) {
	t.Helper()
	if got := h.Offer(key, count); got != want || !h.Check() {
		t.Fatalf("Offer(%q, %d) = %t, want %t: %v", key, count, got, want, h)
	}
}

func mustList(t *testing.T, h *Heap, want ...Item) {
	t.Helper()
	if got := h.List(); !slices.Equal(got, want) {
		t.Fatalf("List() = %v, want %v", got, want)
	}
}

func mustLast(t *testing.T, h *Heap, want Item) {
	t.Helper()
	if got, ok := h.Last(); got != want || !ok {
		t.Fatalf("Last() = %v, %t, want %v", got, ok, want)
	}
}

// mustHaveNothing holds that a heap without keys tells none.
func mustHaveNothing(t *testing.T, h *Heap) {
	t.Helper()
	mustList(t, h)
	if got, ok := h.Last(); got != (Item{}) || ok {
		t.Fatalf("Last() = %v, %t, of no key", got, ok)
	}
	if got := h.Len(); got != 0 {
		t.Fatalf("Len() = %d, of no key", got)
	}
	for _, key := range keys {
		mustNotGet(t, h, key)
	}
}

// unlike are so many unlike keys of many lengths; their order is not that of their numbers.
func unlike(many int) []string {
	var list []string
	for i := range many {
		list = append(list, strconv.Itoa(i*7919%1000)+strings.Repeat("x", i%5))
	}
	return list
}

// P14.1: New.

func TestNew(t *testing.T) {
	for room := 1; room <= 64; room++ {
		h := New(room)
		if h == nil || !h.Check() {
			t.Fatalf("New(%d) = %v", room, h)
		}
		mustHaveNothing(t, h)
	}
}

func TestNewOfWrongRoom(t *testing.T) {
	for _, room := range wrongRooms {
		if h := New(room); h != nil {
			t.Errorf("New(%d) = %v", room, h)
		}
	}
	for room := -100; room <= 200; room++ {
		if h := New(room); (h != nil) != (room >= 1 && room <= 64) {
			t.Errorf("New(%d) = %v", room, h)
		}
	}
}

// A heap takes as many keys as it has room, and not one more of their count.
func TestRoom(t *testing.T) {
	for room := 1; room <= 64; room++ {
		b := newBoth(t, room)
		for i, key := range unlike(room + 10) {
			if got := b.offer(key, 5); got != (i < room) {
				t.Fatalf("room %d: Offer of key %d: %t", room, i, got)
			}
		}
	}
}

func TestNewHeapsShareNothing(t *testing.T) {
	one, other := New(3), New(3)
	mustOffer(t, one, "a", 1, true)
	mustHaveNothing(t, other)
	mustOffer(t, other, "b", 2, true)
	mustList(t, one, Item{"a", 1})
	mustList(t, other, Item{"b", 2})
	mustHaveNothing(t, New(3))
}

// Of a nil heap.

func TestNilHeap(t *testing.T) {
	var h *Heap
	for _, key := range keys {
		for _, count := range counts {
			if h.Offer(key, count) {
				t.Fatalf("Offer(%q, %d) of a nil heap holds", key, count)
			}
		}
	}
	mustHaveNothing(t, h)
	if h.Check() {
		t.Error("Check() of a nil heap holds")
	}
	for _, room := range []int{0, 65, -1} {
		mustHaveNothing(t, New(room))
	}
}

// A Heap that New did not make has room for no key, and its calls end all the same.
func TestHeapThatNewDidNotMake(t *testing.T) {
	h := new(Heap)
	for _, key := range keys {
		for _, count := range counts {
			if h.Offer(key, count) {
				t.Fatalf("Offer(%q, %d) holds without room", key, count)
			}
			mustHaveNothing(t, h)
		}
	}
	if !h.Check() {
		t.Error("Check() without keys does not hold")
	}
}

// Whichever of two that are one heap is asked, no call fails.
func TestCopyOfAHeap(t *testing.T) {
	source := rand.New(rand.NewSource(40))
	for _, room := range rightRooms {
		b := newBoth(t, room)
		twin := *b.h
		list := unlike(2 * room)
		for range 300 {
			b.offer(list[source.Intn(len(list))], source.Intn(50))
			other := both{t, &twin, b.p}
			other.hold()
			other.offer(list[source.Intn(len(list))], source.Intn(50))
			b.hold()
		}
	}
}

// P14.1: Offer of a key that is there.

func TestOfferOfAKeyThatIsThere(t *testing.T) {
	for _, room := range []int{1, 2, 3, 4, 19, 64} {
		for _, was := range counts {
			for _, is := range counts {
				b := newBoth(t, room)
				some := keys[:min(room, len(keys))]
				for _, key := range some {
					b.offer(key, was)
				}
				for _, key := range some {
					if !b.offer(key, is) {
						t.Fatalf("Offer(%q, %d), where it has %d, does not hold", key, is, was)
					}
					mustGet(t, b.h, key, is)
				}
			}
		}
	}
}

// Each one, wherever it stands, comes to stand anywhere, with room and without.
func TestOfferFromAnyPlaceToAnyPlace(t *testing.T) {
	for _, room := range []int{1, 2, 3, 7, 10, 11, 64} {
		many := min(room, 10)
		list := unlike(many)
		for from := range many {
			for count := -1; count <= 2*many; count++ {
				b := newBoth(t, room)
				for i, key := range list {
					b.offer(key, 2*i)
				}
				b.offer(list[from], count)
				mustGet(t, b.h, list[from], count)
				if b.h.Len() != many {
					t.Fatalf("one of %d keys with another count: %d keys", many, b.h.Len())
				}
			}
		}
	}
}

// A key that is there stays, even with a count that is less than that of one that did not come in.
func TestOfferOfLessStays(t *testing.T) {
	h := New(2)
	mustOffer(t, h, "a", 5, true)
	mustOffer(t, h, "b", 6, true)
	mustOffer(t, h, "c", 5, false)
	mustOffer(t, h, "b", math.MinInt, true)
	mustList(t, h, Item{"a", 5}, Item{"b", math.MinInt})
	mustOffer(t, h, "c", math.MinInt, false)
	mustOffer(t, h, "c", math.MinInt+1, true)
	mustList(t, h, Item{"a", 5}, Item{"c", math.MinInt + 1})
}

// P14.1: Offer of a key that is not there, with room.

func TestOfferWithRoom(t *testing.T) {
	for _, count := range counts {
		for _, other := range counts {
			b := newBoth(t, len(keys))
			for i, key := range keys {
				if !b.offer(key, []int{count, other}[i%2]) {
					t.Fatalf("Offer(%q) with room does not hold", key)
				}
			}
			if b.h.Len() != len(keys) {
				t.Fatalf("%d keys, want %d", b.h.Len(), len(keys))
			}
		}
	}
}

// P14.1: Offer of a key that is not there, without room.

// Against each count of the last one: with a greater one that goes, and with the same or a smaller one all stays.
func TestOfferWithoutRoom(t *testing.T) {
	for _, room := range []int{1, 2, 3, 8, 18} {
		for _, last := range counts {
			for _, count := range counts {
				b := newBoth(t, room)
				for i, key := range keys[1 : room+1] {
					b.offer(key, max(last, last+i))
				}
				was, before := b.h.List(), b.h.List()[room-1]
				got := b.offer("", count)
				if got != (count > before.Count) {
					t.Fatalf("Offer of %d against %d: %t", count, before.Count, got)
				}
				if !got {
					mustList(t, b.h, was...)
					mustNotGet(t, b.h, "")
					continue
				}
				mustNotGet(t, b.h, before.Key)
				mustGet(t, b.h, "", count)
				for _, item := range was[:room-1] {
					mustGet(t, b.h, item.Key, item.Count)
				}
			}
		}
	}
}

// Of one count the key with the greatest bytes goes; that the new key stands ahead of it does not bring it in.
func TestOfferAmongKeysOfOneCount(t *testing.T) {
	for _, count := range counts[1 : len(counts)-1] {
		for _, at := range []int{0, 1, 9, len(keys) - 1} {
			b := newBoth(t, len(keys)-1)
			out := keys[at]
			for i := range keys {
				if i != at {
					b.offer(keys[i], count)
				}
			}
			if b.offer(out, count) || b.offer(out, count-1) || b.offer(out, math.MinInt) {
				t.Fatalf("%q comes in with no more than all have", out)
			}
			for i := len(keys) - 1; i >= 0; i-- {
				if i == at {
					continue
				}
				if !b.offer(out, count+1) {
					t.Fatalf("%q does not come in with more than all have", out)
				}
				mustNotGet(t, b.h, keys[i])
				out = keys[i]
			}
		}
	}
}

// One that went may come again, as any other.
func TestOneThatWentComesAgain(t *testing.T) {
	h := New(1)
	mustOffer(t, h, "a", 1, true)
	mustOffer(t, h, "b", 2, true)
	mustNotGet(t, h, "a")
	mustOffer(t, h, "a", 2, false)
	mustNotGet(t, h, "a")
	mustOffer(t, h, "a", 3, true)
	mustNotGet(t, h, "b")
	mustList(t, h, Item{"a", 3})
}

// A key that begins with another, or differs by a byte 0 alone, is another key.
func TestKeysThatBeginWithAnother(t *testing.T) {
	b := newBoth(t, 64)
	for i, key := range keys {
		b.offer(key, i)
	}
	for i, key := range keys {
		mustGet(t, b.h, key, i)
		mustNotGet(t, b.h, key+"\x00\x00\x00")
		mustNotGet(t, b.h, key+"?")
		mustNotGet(t, b.h, "?"+key)
	}
	long := strings.Repeat("k", 100000)
	b.offer(long, 7)
	b.offer(long+"k", 7)
	mustGet(t, b.h, long, 7)
	mustNotGet(t, b.h, long[1:])
}

// P14.1: List and Last.

func TestListOfOneCount(t *testing.T) {
	source := rand.New(rand.NewSource(41))
	for _, count := range counts {
		for range 20 {
			b := newBoth(t, len(keys))
			for _, i := range source.Perm(len(keys)) {
				b.offer(keys[i], count)
			}
			var want []Item
			for _, key := range keys {
				want = append(want, Item{key, count})
			}
			mustList(t, b.h, want...)
			mustLast(t, b.h, Item{"\xff\xff", count})
		}
	}
}

func TestListOfUnlikeCounts(t *testing.T) {
	source := rand.New(rand.NewSource(42))
	for range 50 {
		b := newBoth(t, len(counts))
		var want []Item
		for _, i := range source.Perm(len(counts)) {
			b.offer(keys[i], counts[i])
		}
		for i := len(counts) - 1; i >= 0; i-- {
			want = append(want, Item{keys[i], counts[i]})
		}
		mustList(t, b.h, want...)
		mustLast(t, b.h, Item{"", math.MinInt})
	}
}

// Falling counts go ahead of rising keys.
func TestListOfSomeCounts(t *testing.T) {
	h := Of(6, []Item{{"a", 1}, {"b", 2}, {"c", 1}, {"d", 3}, {"", 2}, {"b\x00", 2}})
	mustList(t, h, Item{"d", 3}, Item{"", 2}, Item{"b", 2}, Item{"b\x00", 2}, Item{"a", 1}, Item{"c", 1})
	mustLast(t, h, Item{"c", 1})
	mustOffer(t, h, "a", 0, true)
	mustLast(t, h, Item{"a", 0})
	mustOffer(t, h, "a", 1, true)
	mustLast(t, h, Item{"c", 1})
	mustOffer(t, h, "c", 9, true)
	mustLast(t, h, Item{"a", 1})
}

// What was told is neither changed by a later Offer nor is it the heap's own.
func TestListIsNewMemory(t *testing.T) {
	b := newBoth(t, 4)
	for i, key := range keys[:4] {
		b.offer(key, i)
		told := b.h.List()
		kept, other := slices.Clone(told), b.h.List()
		for _, later := range keys[:4] {
			if _, ok := b.h.Get(later); ok {
				b.offer(later, 10+i)
			}
		}
		if !slices.Equal(told, kept) {
			t.Fatalf("List() was %v and became %v", kept, told)
		}
		for j := range told {
			told[j] = Item{"other", -1}
		}
		_ = append(told[:0], Item{"more", -2})
		_ = append(told, Item{"more", -3})
		if !slices.Equal(other, kept) {
			t.Fatalf("another List was %v and became %v", kept, other)
		}
		b.hold()
	}
	told := b.h.List()
	kept := slices.Clone(told)
	b.offer("new", 1000)
	if !slices.Equal(told, kept) {
		t.Errorf("List() was %v and became %v", kept, told)
	}
	last, _ := b.h.Last()
	last.Key, last.Count = "other", -1
	b.hold()
}

// P14.1: Get and Len.

func TestGet(t *testing.T) {
	list := unlike(200)
	for _, room := range rightRooms {
		b := newBoth(t, room)
		for i, key := range list {
			b.offer(key, i)
			if want := min(i+1, room); b.h.Len() != want {
				t.Fatalf("Len() = %d, want %d", b.h.Len(), want)
			}
			// Those that are gone, those that are there, and those that never were.
			for j, other := range list {
				if j <= i && j > i-room {
					mustGet(t, b.h, other, j)
				} else {
					mustNotGet(t, b.h, other)
				}
			}
		}
	}
}

// P14.1: Of.

func TestOf(t *testing.T) {
	source := rand.New(rand.NewSource(43))
	for _, room := range rightRooms {
		for _, many := range []int{0, 1, 2, room - 1, room, room + 1, 2 * room, 300} {
			for _, of := range []int{1, 2, room, room + 1, 3 * room} {
				names := unlike(of)
				var l []Item
				p := &plain{room: room}
				for range many {
					item := Item{names[source.Intn(of)], source.Intn(9) - 4}
					l = append(l, item)
					p.offer(item.Key, item.Count)
				}
				kept := slices.Clone(l)
				b := both{t, Of(room, l), p}
				b.hold()
				if !slices.Equal(l, kept) {
					t.Fatalf("the list that was given was %v and became %v", kept, l)
				}
				// Nor is it kept.
				for i := range l {
					l[i] = Item{"other", 100}
				}
				b.hold()
				b.offer(names[0], 1)
			}
		}
	}
}

// What comes ahead counts: the order of the items decides which of them stay.
func TestOfGoesByTheOrder(t *testing.T) {
	mustList(t, Of(1, []Item{{"a", 1}, {"b", 1}}), Item{"a", 1})
	mustList(t, Of(1, []Item{{"b", 1}, {"a", 1}}), Item{"b", 1})
	mustList(t, Of(2, []Item{{"a", 1}, {"a", 3}, {"a", 2}}), Item{"a", 2})
	mustList(t, Of(1, []Item{{"a", 5}, {"b", 3}, {"a", 1}}), Item{"a", 1})
	mustList(t, Of(1, []Item{{"a", 5}, {"a", 1}, {"b", 3}}), Item{"b", 3})
}

func TestOfWithWrongRoom(t *testing.T) {
	for _, room := range wrongRooms {
		for _, l := range [][]Item{nil, {}, {{"a", 1}}, {{"a", 1}, {"b", 2}, {"a", 3}}} {
			if h := Of(room, l); h != nil {
				t.Errorf("Of(%d, %v) = %v", room, l, h)
			}
		}
	}
}

func TestOfWithNoItem(t *testing.T) {
	for room := 1; room <= 64; room++ {
		for _, l := range [][]Item{nil, {}} {
			h := Of(room, l)
			if h == nil || !h.Check() {
				t.Fatalf("Of(%d) of no item = %v", room, h)
			}
			mustHaveNothing(t, h)
		}
	}
}

// P14.2.

// The heap is held behind every Offer, in long rows of them.
func TestCheckInLongRows(t *testing.T) {
	source := rand.New(rand.NewSource(44))
	for _, room := range rightRooms {
		for _, of := range []int{2, room, room + 1, 3 * room, 400} {
			for _, spread := range []int{1, 2, 10, 1000000} {
				names := unlike(of)
				b := newBoth(t, room)
				for range 300 {
					b.offer(names[source.Intn(of)], source.Intn(spread)-spread/3)
				}
			}
		}
	}
}

func TestCheckInOrderedRows(t *testing.T) {
	names := unlike(300)
	slices.Sort(names)
	names = slices.Compact(names)
	turned := slices.Clone(names)
	slices.Reverse(turned)
	for _, room := range rightRooms {
		for _, list := range [][]string{names, turned, unlike(300)} {
			for _, step := range []int{-3, -1, 0, 1, 3} {
				b := newBoth(t, room)
				for i, key := range list {
					b.offer(key, step*i)
				}
				// And once more with what turns all about.
				for i, key := range list {
					b.offer(key, -step*i)
				}
			}
		}
	}
}

// Counts that grow by one at a time are what sketches offer.
func TestCheckOfGrowingCounts(t *testing.T) {
	source := rand.New(rand.NewSource(45))
	for _, room := range []int{1, 5, 16, 64} {
		b := newBoth(t, room)
		came := map[string]int{}
		for range 3000 {
			key := strconv.Itoa(int(source.ExpFloat64() * 30))
			came[key]++
			b.offer(key, came[key])
		}
	}
}

// full is a heap of so many keys, each of another count.
func full(many int) *Heap {
	h := New(many)
	for i, key := range unlike(many) {
		h.Offer(key, i*37%many)
	}
	return h
}

// Two keys that lie where the other one should are not found, or one stands ahead of one that stands behind it.
func TestCheckOfWhatLiesWrongly(t *testing.T) {
	for many := 2; many <= 20; many++ {
		for i := range many {
			for j := range i {
				h := full(many)
				h.items[i], h.items[j] = h.items[j], h.items[i]
				if h.Check() {
					t.Fatalf("%d and %d of %d are changed about, and not found, and Check() holds", i, j, many)
				}
				if h = full(many); j == (i-1)/2 {
					h.swap(i, j)
					if h.Check() {
						t.Fatalf("%d of %d stands ahead of %d, and Check() holds", j, many, i)
					}
				}
			}
		}
	}
}

func TestCheckOfAKeyThatIsNotFound(t *testing.T) {
	for many := 1; many <= 20; many++ {
		for i := range many {
			for _, at := range []int{-1, i - 1, i + 1, many, 64} {
				h := full(many)
				h.place[h.items[i].Key] = at
				if h.Check() {
					t.Fatalf("%d of %d is sought at %d, and Check() holds", i, many, at)
				}
			}
			// Another key has its place: one that lies nowhere.
			h := full(many)
			delete(h.place, h.items[i].Key)
			h.place["nowhere"] = i
			if h.Check() {
				t.Fatalf("%d of %d has no place, and Check() holds", i, many)
			}
		}
	}
}

// A key that lies twice can't be found at both places.
func TestCheckOfAKeyThatLiesTwice(t *testing.T) {
	for many := 2; many <= 20; many++ {
		for i := range many {
			for j := range many {
				h := full(many)
				if h.items[j] = h.items[i]; i != j && h.Check() {
					t.Fatalf("%d of %d lies at %d, too, and Check() holds", i, many, j)
				}
			}
		}
	}
}

// Any other order of the keys that does not make one stand ahead of one behind it is right as well.
func TestCheckOfAnotherOrder(t *testing.T) {
	h := Of(3, []Item{{"a", 1}, {"b", 2}, {"c", 3}})
	h.swap(1, 2)
	if !h.Check() {
		t.Error("the two below the first one are changed about, and Check() does not hold")
	}
	h.swap(0, 1)
	if h.Check() {
		t.Error("the last one is not on top, and Check() holds")
	}
	// Of one count keys decide, too.
	h = Of(2, []Item{{"a", 1}, {"b", 1}})
	h.swap(0, 1)
	if h.Check() {
		t.Error("a stands behind b, and Check() holds")
	}
}

// P14.3.

func TestNeverMoreKeysThanRoom(t *testing.T) {
	source := rand.New(rand.NewSource(46))
	for _, room := range rightRooms {
		h := New(room)
		offered := map[string]bool{}
		for i := range 1000 {
			key := strconv.Itoa(source.Intn(500))
			offered[key] = true
			h.Offer(key, i-source.Intn(100))
			if want := min(room, len(offered)); h.Len() != want || len(h.List()) != want {
				t.Fatalf("%d keys in room for %d, of %d that were offered", h.Len(), room, len(offered))
			}
		}
	}
}

func TestEachIsThereWithItsLastCount(t *testing.T) {
	source := rand.New(rand.NewSource(47))
	for _, room := range rightRooms {
		for _, many := range []int{1, room/2 + 1, room} {
			names := unlike(many)
			h := New(room)
			was := map[string]int{}
			for range 500 {
				key, count := names[source.Intn(many)], counts[source.Intn(len(counts))]
				was[key] = count
				mustOffer(t, h, key, count, true)
				if h.Len() != len(was) {
					t.Fatalf("%d keys, want %d", h.Len(), len(was))
				}
				for key, count := range was {
					mustGet(t, h, key, count)
				}
			}
		}
	}
}

// What a heap tells hangs on what was offered alone.
func TestOneRowMakesOneHeap(t *testing.T) {
	source := rand.New(rand.NewSource(48))
	for _, room := range rightRooms {
		var l []Item
		for range 400 {
			l = append(l, Item{strconv.Itoa(source.Intn(100)), source.Intn(20)})
		}
		one := Of(room, l)
		for range 5 {
			other := Of(room, l)
			mustList(t, other, one.List()...)
			last, _ := one.Last()
			mustLast(t, other, last)
		}
	}
}

// The chapter's examples.

func TestExamples(t *testing.T) {
	h := New(2)
	mustOffer(t, h, "a", 1, true)
	mustOffer(t, h, "b", 2, true)
	mustOffer(t, h, "c", 1, false)
	mustNotGet(t, h, "c")
	mustList(t, h, Item{"b", 2}, Item{"a", 1})
	mustOffer(t, h, "c", 2, true)
	mustNotGet(t, h, "a")
	mustList(t, h, Item{"b", 2}, Item{"c", 2})
	mustLast(t, h, Item{"c", 2})
	if h.Len() != 2 {
		t.Errorf("Len() = %d", h.Len())
	}
}
