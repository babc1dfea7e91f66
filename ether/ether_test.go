package ether

import (
	"math"
	"math/rand"
	"reflect"
	"slices"
	"strings"
	"testing"

	"rillmeter/api"
)

const (
	dst = "\x00\x01\x02\x03\x04\x05"
	src = "\xff\xfe\x81\x00\x88\xa8" // ends with both Kinds, which are no tags there
)

var (
	kinds        = []int{0x8100, 0x88a8}
	wrongKinds   = []int{0, 1, 0x80ff, 0x8101, 0x0081, 0x88a7, 0x88a9, 0xa888, 0x0800, 0x9100, 0xffff, 0x18100, 0x188a8, 0x8100 - 1<<16, -0x8100, math.MinInt, math.MaxInt}
	numbers      = []int{0, 1, 0xff, 0x100, 0xfff, 0x1000, 0x7fff, 0x8000, 0x8100, 0x88a8, 0xfffe, 0xffff}
	wrongNumbers = []int{-1, -2, -0xffff, -0x10000, math.MinInt, 0x10000, 0x10001, 0x20000, 0x10800, 1 << 32, math.MaxInt}
	types        = []int{0, 1, 0x0081, 0x05dc, 0x0600, 0x0800, 0x0806, 0x80ff, 0x8101, 0x86dd, 0x88a7, 0x88a9, 0xa888, 0xfffe, 0xffff}
	bodies       = []string{"", "x", "\x00", "\x81", "\x81\x00", "\x88\xa8\x00\x01\x81\x00\x00\x02", "é€", "a body of some bytes"}
)

// two writes a number of two bytes by hand, so that the tests do not lean on layer 4.
func two(n int) string { return string([]byte{byte(n >> 8), byte(n)}) }

// plainBytes writes a frame that is right.
func plainBytes(f Frame) string {
	s := f.Dst + f.Src
	for _, tag := range f.Tags {
		s += two(tag.Kind) + two(tag.Value)
	}
	return s + two(f.Type)
}

func frame(kind int, tags ...Tag) Frame {
	return Frame{Dst: dst, Src: src, Tags: tags, Type: kind}
}

// tagLists are all lists of at most two tags, of each Kind, with Values at the edges.
func tagLists() [][]Tag {
	var tags []Tag
	for _, kind := range kinds {
		for _, value := range numbers {
			tags = append(tags, Tag{kind, value})
		}
	}
	lists := [][]Tag{nil, {}}
	for _, first := range tags {
		lists = append(lists, []Tag{first})
		for _, second := range tags {
			lists = append(lists, []Tag{first, second})
		}
	}
	return lists
}

// rightFrames have each list of tags with each Type, and some bytes of any kind that are the same in each run.
func rightFrames() []Frame {
	var list []Frame
	for _, tags := range tagLists() {
		for _, kind := range types {
			list = append(list, frame(kind, tags...))
		}
	}
	source := rand.New(rand.NewSource(5))
	for range 200 {
		some := make([]byte, 12)
		source.Read(some)
		f := Frame{Dst: string(some[:6]), Src: string(some[6:]), Type: source.Intn(0x8100)}
		for range source.Intn(3) {
			f.Tags = append(f.Tags, Tag{kinds[source.Intn(2)], source.Intn(1 << 16)})
		}
		list = append(list, f)
	}
	return list
}

func same(f, g Frame) bool {
	return f.Dst == g.Dst && f.Src == g.Src && slices.Equal(f.Tags, g.Tags) && f.Type == g.Type
}

// mustRefuse holds that a frame is not right and is not written.
func mustRefuse(t *testing.T, f Frame) {
	t.Helper()
	if Right(f) {
		t.Errorf("Right(%#v)", f)
	}
	for _, body := range []string{"", "body"} {
		if s, err := Put(f, body); s != "" || err != api.ErrArg {
			t.Errorf("Put(%#v, %q) = %q, %d", f, body, s, err)
		}
	}
}

// mustNotTake holds that nothing but the error is told.
func mustNotTake(t *testing.T, s string, want api.Errno) {
	t.Helper()
	f, rest, err := Take(s)
	if !reflect.DeepEqual(f, Frame{}) || rest != "" || err != want {
		t.Errorf("Take(%q) = %#v, %q, %d, not the error %d alone", s, f, rest, err, want)
	}
}

// P5.1: Right and Put.

func TestRightFramesAreWritten(t *testing.T) {
	for _, f := range rightFrames() {
		if !Right(f) {
			t.Errorf("not Right(%#v)", f)
		}
		for _, body := range bodies {
			if s, err := Put(f, body); s != plainBytes(f)+body || err != api.OK {
				t.Errorf("Put(%#v, %q) = %q, %d", f, body, s, err)
			}
		}
	}
}

func TestPutOfKnownFrames(t *testing.T) {
	for _, c := range []struct {
		f    Frame
		body string
		want string
	}{
		{Frame{Dst: "dddddd", Src: "ssssss", Type: 0x0800}, "x", "ddddddssssss\x08\x00x"},
		{Frame{Dst: "dddddd", Src: "ssssss"}, "", "ddddddssssss\x00\x00"},
		{Frame{Dst: "dddddd", Src: "ssssss", Tags: []Tag{{0x8100, 0x0102}}, Type: 0xffff}, "", "ddddddssssss\x81\x00\x01\x02\xff\xff"},
		{Frame{Dst: "dddddd", Src: "ssssss", Tags: []Tag{{0x8100, 0xffff}, {0x88a8, 0}}, Type: 0x86dd}, "body", "ddddddssssss\x81\x00\xff\xff\x88\xa8\x00\x00\x86\xddbody"},
	} {
		if s, err := Put(c.f, c.body); s != c.want || err != api.OK {
			t.Errorf("Put(%#v, %q) = %q, %d", c.f, c.body, s, err)
		}
	}
}

func TestEveryTypeButTheKindsIsRight(t *testing.T) {
	for kind := range 1 << 16 {
		f := frame(kind)
		want := kind != 0x8100 && kind != 0x88a8
		s, err := Put(f, "")
		if Right(f) != want || (err == api.OK) != want || (want && s != plainBytes(f)) {
			t.Errorf("Type %#x: Right %t, Put %q, %d", kind, Right(f), s, err)
		}
	}
}

func TestTypesThatAreWrong(t *testing.T) {
	for _, tags := range [][]Tag{nil, {{0x8100, 1}}, {{0x88a8, 1}, {0x8100, 2}}} {
		for _, kind := range append(slices.Clone(kinds), wrongNumbers...) {
			mustRefuse(t, frame(kind, tags...))
		}
	}
}

func TestAddressesThatAreWrong(t *testing.T) {
	for _, length := range []int{0, 1, 4, 5, 7, 8, 12, 300} {
		wrong := strings.Repeat("a", length)
		mustRefuse(t, Frame{Dst: wrong, Src: src, Type: 0x0800})
		mustRefuse(t, Frame{Dst: dst, Src: wrong, Type: 0x0800})
		mustRefuse(t, Frame{Dst: wrong, Src: wrong, Type: 0x0800})
	}
	// Twelve bytes in all, but not six each.
	mustRefuse(t, Frame{Dst: "aaaaa", Src: "bbbbbbb", Type: 0x0800})
	mustRefuse(t, Frame{Dst: "aaaaaaa", Src: "bbbbb", Type: 0x0800})
	// Bytes count, not signs: six signs of two bytes, and three.
	mustRefuse(t, Frame{Dst: "éééééé", Src: src, Type: 0x0800})
	if f := (Frame{Dst: "ééé", Src: "€€", Type: 0x0800}); !Right(f) {
		t.Errorf("not Right(%#v)", f)
	}
	mustRefuse(t, Frame{})
}

func TestTagsThatAreWrong(t *testing.T) {
	good := Tag{0x8100, 1}
	for _, kind := range wrongKinds {
		wrong := Tag{kind, 1}
		mustRefuse(t, frame(0x0800, wrong))
		mustRefuse(t, frame(0x0800, wrong, good))
		mustRefuse(t, frame(0x0800, good, wrong))
	}
	for _, kind := range kinds {
		for _, value := range wrongNumbers {
			wrong := Tag{kind, value}
			mustRefuse(t, frame(0x0800, wrong))
			mustRefuse(t, frame(0x0800, wrong, good))
			mustRefuse(t, frame(0x0800, good, wrong))
		}
	}
}

func TestMoreThanTwoTagsAreWrong(t *testing.T) {
	for _, kind := range kinds {
		for _, many := range []int{3, 4, 1000} {
			mustRefuse(t, frame(0x0800, slices.Repeat([]Tag{{kind, 1}}, many)...))
		}
	}
}

func TestPutLeavesTheTagsAsTheyWere(t *testing.T) {
	backing := []Tag{{0x88a8, 3}, {0x8100, 4}, {7, 7}}
	kept := slices.Clone(backing)
	f := frame(0x0800, backing[:2]...)
	Right(f)
	Put(f, "body")
	if !slices.Equal(backing, kept) {
		t.Errorf("the tags are %v now, not %v", backing, kept)
	}
}

// P5.1: ID.

func TestIDIsTheLowestTwelveBits(t *testing.T) {
	for value := range 1 << 16 {
		for _, kind := range kinds {
			if got := ID(Tag{kind, value}); got != value%4096 {
				t.Fatalf("ID of the Value %d = %d", value, got)
			}
		}
	}
	for value, want := range map[int]int{0xf005: 5, 0xffff: 4095, 0x1000: 0, 0x0fff: 4095, 1 << 16: 0, 1<<40 + 9: 9, math.MaxInt: 4095, -1: 4095, -4096: 0, -4095: 1, math.MinInt: 0} {
		if got := ID(Tag{0x8100, value}); got != want {
			t.Errorf("ID of the Value %d = %d, not %d", value, got, want)
		}
	}
	for _, kind := range wrongKinds {
		if got := ID(Tag{kind, 0x2003}); got != 3 {
			t.Errorf("ID of the Kind %#x = %d", kind, got)
		}
	}
}

// P5.2.

func TestTakeOfTheExample(t *testing.T) {
	f, rest, err := Take("twelve bytes\x08\x00x")
	if !same(f, Frame{Dst: "twelve", Src: " bytes", Type: 0x0800}) || rest != "x" || err != api.OK {
		t.Errorf("Take = %#v, %q, %d", f, rest, err)
	}
}

func TestTakeOfKnownFrames(t *testing.T) {
	head := "ddddddssssss"
	for _, c := range []struct {
		s    string
		tags []Tag
		kind int
		rest string
	}{
		{"\x00\x00", nil, 0, ""},
		{"\xff\xff", nil, 0xffff, ""},
		{"\x81\x01\x00\x07\x08\x00", nil, 0x8101, "\x00\x07\x08\x00"},
		{"\x88\xa9x", nil, 0x88a9, "x"},
		{"\x00\x81\x00\x08", nil, 0x0081, "\x00\x08"},
		{"\x08\x00\x81\x00\x00\x01", nil, 0x0800, "\x81\x00\x00\x01"},
		{"\x81\x00\x00\x07\x08\x00", []Tag{{0x8100, 7}}, 0x0800, ""},
		{"\x88\xa8\xff\xff\x08\x06rest", []Tag{{0x88a8, 0xffff}}, 0x0806, "rest"},
		// Values that look like Kinds are Values.
		{"\x81\x00\x81\x00\x08\x00", []Tag{{0x8100, 0x8100}}, 0x0800, ""},
		{"\x88\xa8\x81\x00\x81\x00\x88\xa8\x08\x00", []Tag{{0x88a8, 0x8100}, {0x8100, 0x88a8}}, 0x0800, ""},
		{"\x81\x00\x00\x01\x81\x00\x00\x02\x86\xdd\x81\x00", []Tag{{0x8100, 1}, {0x8100, 2}}, 0x86dd, "\x81\x00"},
	} {
		f, rest, err := Take(head + c.s)
		if !same(f, Frame{Dst: "dddddd", Src: "ssssss", Tags: c.tags, Type: c.kind}) || rest != c.rest || err != api.OK {
			t.Errorf("Take(%q) = %#v, %q, %d", head+c.s, f, rest, err)
		}
	}
}

// A head of each number of tags is cut at every place: within Dst, within Src, ahead of and within each Kind, each Value and the Type.
func TestTakeOfHeadsThatAreCut(t *testing.T) {
	for _, first := range kinds {
		for _, second := range kinds {
			for _, tags := range [][]Tag{nil, {{first, 0x8100}}, {{first, 0x88a8}, {second, 0x0800}}} {
				whole := plainBytes(frame(0x0800, tags...))
				for length := range len(whole) {
					mustNotTake(t, whole[:length], api.ErrShort)
				}
				if f, rest, err := Take(whole); !same(f, frame(0x0800, tags...)) || rest != "" || err != api.OK {
					t.Errorf("Take(%q) = %#v, %q, %d", whole, f, rest, err)
				}
			}
		}
	}
}

// A third tag is told by its Kind alone; while that is cut, the text is too short.
func TestTakeOfAThirdTag(t *testing.T) {
	for _, tags := range tagLists() {
		if len(tags) != 2 {
			continue
		}
		ahead := strings.TrimSuffix(plainBytes(frame(0x0800, tags...)), "\x08\x00")
		for _, kind := range kinds {
			mustNotTake(t, ahead+two(kind)[:1], api.ErrShort)
			for _, behind := range []string{"", "\x00", "\x00\x03", "\x00\x03\x08", "\x00\x03\x08\x00", "\x00\x03\x81\x00\x00\x04\x08\x00rest"} {
				mustNotTake(t, ahead+two(kind)+behind, api.ErrTags)
			}
		}
	}
	mustNotTake(t, dst+src+strings.Repeat("\x81\x00", 100_000), api.ErrTags)
}

// P5.3.

func TestWhatIsWrittenIsTakenBack(t *testing.T) {
	for _, f := range rightFrames() {
		for _, body := range bodies {
			s, err := Put(f, body)
			if err != api.OK {
				t.Fatalf("Put(%#v, %q): %d", f, body, err)
			}
			for _, behind := range []string{"", "\x81\x00", "behind"} {
				g, rest, err := Take(s + behind)
				if !same(f, g) || rest != body+behind || err != api.OK {
					t.Errorf("Take(%q) = %#v, %q, %d", s+behind, g, rest, err)
				}
			}
		}
	}
}

// anyText is made of pieces that lie near each other for a parser: Kinds, halves of them, Types, and any bytes.
func anyText(source *rand.Rand) string {
	pieces := []string{"\x81\x00", "\x88\xa8", "\x81", "\x88", "\x00", "\xa8", "\x08\x00", "\x86\xdd", "\x00\x07"}
	some := make([]byte, 10+source.Intn(4))
	source.Read(some)
	s := string(some)
	for range source.Intn(9) {
		s += pieces[source.Intn(len(pieces))]
	}
	return s
}

func TestWhatIsTakenIsWrittenAsItStood(t *testing.T) {
	source := rand.New(rand.NewSource(53))
	taken := map[int]int{}
	for range 50_000 {
		s := anyText(source)
		f, rest, err := Take(s)
		if err != api.OK {
			mustNotTake(t, s, err)
			if err != api.ErrShort && err != api.ErrTags {
				t.Errorf("Take(%q): %d", s, err)
			}
			continue
		}
		taken[len(f.Tags)]++
		again, err := Put(f, rest)
		if !Right(f) || again != s || err != api.OK {
			t.Errorf("%q is taken as %#v and %q, and written as %q, %d", s, f, rest, again, err)
		}
	}
	for tags := range 3 {
		if taken[tags] < 100 {
			t.Errorf("only %d texts with %d tags were taken", taken[tags], tags)
		}
	}
}

// What was answered once is not written into by a later call.
func TestAnswersShareNoTags(t *testing.T) {
	want := frame(0x0800, Tag{0x8100, 1}, Tag{0x88a8, 2})
	s := plainBytes(want)
	first, _, _ := Take(s)
	second, _, _ := Take(s)
	second.Tags[0].Value = 9
	if !same(first, want) {
		t.Errorf("the first answer is %#v now", first)
	}
	if third, _, _ := Take(s); !same(third, want) {
		t.Errorf("a later answer is %#v", third)
	}
}
