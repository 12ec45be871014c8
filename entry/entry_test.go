package entry

import (
	"math"
	"slices"
	"strings"
	"testing"
	"unsafe"

	"drayman/api"
)

// a255 and a256 are names, the longest one that may be and the shortest one that is too long.
var a255, a256 = strings.Repeat("a", 255), strings.Repeat("a", 256)

// few are names that may be, rising by their bytes.
var few = []string{"\x01", " ", "-", "...", ".a", "A", "a", "a b", "a" + a255[:254], "ab", "b", "\x7f", "\xc3", "é", "\xff"}

// wrong are names that may not be.
var wrong = []string{"", ".", "..", "/", "a/", "/a", "a/b", "\x00", "a\x00", "\x00a", a256, a256 + a256}

// entries answers entries of these names, whose numbers are their places and 2.
func entries(names ...string) []api.Entry {
	var l []api.Entry
	for i, name := range names {
		l = append(l, api.Entry{Name: name, Ino: i + 2})
	}
	return l
}

// parts answers all lists of some of the names, in their order.
func parts(names []string) [][]string {
	all := [][]string{nil}
	for _, name := range names {
		for _, l := range slices.Clone(all) {
			all = append(all, append(slices.Clone(l), name))
		}
	}
	return all
}

// orders answers all orders of the entries.
func orders(l []api.Entry) [][]api.Entry {
	if len(l) == 0 {
		return [][]api.Entry{nil}
	}
	var all [][]api.Entry
	for i, e := range l {
		for _, rest := range orders(slices.Concat(l[:i], l[i+1:])) {
			all = append(all, append([]api.Entry{e}, rest...))
		}
	}
	return all
}

// held tells, of the chapter's words alone, in which order the bytes of two names stand: below 0, 0, above 0.
func held(a, b string) int {
	for i := range min(len(a), len(b)) {
		if a[i] != b[i] {
			return int(a[i]) - int(b[i])
		}
	}
	return len(a) - len(b)
}

// mayBe tells, of the chapter's words alone, whether the name may be.
func mayBe(name string) bool {
	for i := range len(name) {
		if name[i] == 0x2f || name[i] == 0 {
			return false
		}
	}
	return len(name) >= 1 && len(name) <= 255 && name != "\x2e" && name != "\x2e\x2e"
}

// areRight tells, of the chapter's words alone, whether the entries are right.
func areRight(l []api.Entry) bool {
	for i, e := range l {
		for _, other := range l[:i] {
			if held(other.Name, e.Name) >= 0 {
				return false
			}
		}
		if !mayBe(e.Name) || e.Ino < 1 {
			return false
		}
	}
	return true
}

// added answers, of the chapter's words alone, the entries with one more, or with that one in place of its name's.
func added(l []api.Entry, e api.Entry) []api.Entry {
	all := taken(l, e.Name)
	all = append(all, e)
	slices.SortFunc(all, func(x, y api.Entry) int { return held(x.Name, y.Name) })
	return all
}

// taken answers, of the chapter's words alone, the entries but the name's.
func taken(l []api.Entry, name string) []api.Entry {
	var all []api.Entry
	for _, e := range l {
		if e.Name != name {
			all = append(all, e)
		}
	}
	return all
}

// shares tells whether two texts have memory in common.
func shares(a, b string) bool {
	if a == "" || b == "" {
		return false
	}
	x, y := uintptr(unsafe.Pointer(unsafe.StringData(a))), uintptr(unsafe.Pointer(unsafe.StringData(b)))
	return x < y+uintptr(len(b)) && y < x+uintptr(len(a))
}

// anyShared tells whether a name of the one list has memory in common with one of the other.
func anyShared(a, b []string) bool {
	return slices.ContainsFunc(a, func(x string) bool {
		return slices.ContainsFunc(b, func(y string) bool { return shares(x, y) })
	})
}

// namesOf answers the entries' names, as they stand.
func namesOf(l []api.Entry) []string {
	var names []string
	for _, e := range l {
		names = append(names, e.Name)
	}
	return names
}

// P4.1

func TestRight(t *testing.T) {
	for _, l := range [][]api.Entry{
		nil,
		{},
		{{Name: "a", Ino: 1}},
		{{Name: "a", Ino: math.MaxInt}},
		{{Name: "a", Ino: 2}, {Name: "b", Ino: 3}},
		{{Name: "a", Ino: 3}, {Name: "b", Ino: 2}},
		{{Name: "a", Ino: 2}, {Name: "b", Ino: 2}},
		{{Name: "a", Ino: 2}, {Name: "ab", Ino: 3}, {Name: "b", Ino: 4}},
		{{Name: "B", Ino: 2}, {Name: "a", Ino: 3}},
		{{Name: "-", Ino: 2}, {Name: "...", Ino: 3}, {Name: ".a", Ino: 4}},
		{{Name: "a10", Ino: 2}, {Name: "a9", Ino: 3}},
		{{Name: "z", Ino: 2}, {Name: "é", Ino: 3}, {Name: "\xff", Ino: 4}},
		{{Name: a255[:254], Ino: 2}, {Name: a255, Ino: 3}},
		entries(few...),
	} {
		if !Right(l) {
			t.Errorf("Right(%#v): false", l)
		}
	}
}

func TestRightOfWrongEntries(t *testing.T) {
	for _, l := range [][]api.Entry{
		{{}},
		{{Name: "a"}},
		{{Name: "a", Ino: -1}},
		{{Name: "a", Ino: math.MinInt}},
		{{Ino: 1}},
		{{Name: "a", Ino: 2}, {Name: "b", Ino: 0}},
		{{Name: "a", Ino: 0}, {Name: "b", Ino: 2}},
		{{Name: "a", Ino: 2}, {Name: "b", Ino: -2}, {Name: "c", Ino: 3}},
		{{Name: "a", Ino: 2}, {Name: "a", Ino: 2}},
		{{Name: "a", Ino: 2}, {Name: "a", Ino: 3}},
		{{Name: "a", Ino: 2}, {Name: "b", Ino: 3}, {Name: "b", Ino: 4}},
		{{Name: "a", Ino: 2}, {Name: "b", Ino: 3}, {Name: "a", Ino: 4}},
		{{Name: "b", Ino: 2}, {Name: "a", Ino: 3}},
		{{Name: "ab", Ino: 2}, {Name: "a", Ino: 3}},
		{{Name: "a", Ino: 2}, {Name: "B", Ino: 3}},
		{{Name: "a9", Ino: 2}, {Name: "a10", Ino: 3}},
		{{Name: "a", Ino: 2}, {Name: "c", Ino: 3}, {Name: "b", Ino: 4}},
		{{Name: "b", Ino: 2}, {Name: "a", Ino: 3}, {Name: "c", Ino: 4}},
		{{Name: "\xff", Ino: 2}, {Name: "\x7f", Ino: 3}},
		{{Name: a255, Ino: 2}, {Name: a256, Ino: 3}},
	} {
		if Right(l) {
			t.Errorf("Right(%#v): true", l)
		}
	}
	for _, name := range wrong {
		for _, l := range [][]api.Entry{
			{{Name: name, Ino: 2}},
			added(entries("\x01", "-", "ab", "\xff"), api.Entry{Name: name, Ino: 9}),
		} {
			if Right(l) {
				t.Errorf("Right(%#v): true", l)
			}
		}
	}
}

func TestRightOfAllShortLists(t *testing.T) {
	var all []api.Entry
	for _, name := range []string{"", "-", ".", "..", "...", "a", "a/b", "ab", "b", "\xc3\x00"} {
		for _, ino := range []int{-1, 0, 1, 2} {
			all = append(all, api.Entry{Name: name, Ino: ino})
		}
	}
	for _, x := range all {
		for _, y := range all {
			for _, z := range all {
				for _, l := range [][]api.Entry{{x}, {x, y}, {x, y, z}} {
					if Right(l) != areRight(l) {
						t.Errorf("Right(%#v): %v", l, !areRight(l))
					}
				}
			}
		}
	}
}

func TestFind(t *testing.T) {
	for _, names := range parts(few[:10]) {
		l := entries(names...)
		for _, name := range slices.Concat(few, wrong) {
			place := slices.Index(names, name)
			want, there := 0, place >= 0
			if there {
				want = place + 2
			}
			if got, ok := Find(l, name); got != want || ok != there {
				t.Errorf("Find(%#v, %q): %d, %v, not %d", l, name, got, ok, want)
			}
		}
	}
}

func TestFindOfNoEntry(t *testing.T) {
	three := []api.Entry{{Name: "b", Ino: 5}, {Name: "d", Ino: 1}, {Name: "f", Ino: math.MaxInt}}
	for _, l := range [][]api.Entry{nil, {}, three[:1], three[:2], three} {
		for _, name := range slices.Concat([]string{"a", "B", "ba", "c", "dd", "e", "ff", "g", "D", "b ", " b", "b\x00", "b/", "\xff"}, wrong) {
			if got, ok := Find(l, name); got != 0 || ok {
				t.Errorf("Find(%#v, %q): %d, %v", l, name, got, ok)
			}
		}
	}
	for _, e := range three {
		if got, ok := Find(three, e.Name); got != e.Ino || !ok {
			t.Errorf("Find(%#v, %q): %d, %v", three, e.Name, got, ok)
		}
	}
}

func TestNames(t *testing.T) {
	for _, names := range parts(few[:10]) {
		if got := Names(entries(names...)); !slices.Equal(got, names) {
			t.Errorf("Names of the entries of %q: %q", names, got)
		}
	}
	if got := Names([]api.Entry{}); len(got) != 0 {
		t.Errorf("Names of no entries: %q", got)
	}
	if got := Names(entries(few...)); !slices.Equal(got, few) {
		t.Errorf("Names: %q, not %q", got, few)
	}
}

// P4.2

func TestWith(t *testing.T) {
	two := []api.Entry{{Name: "b", Ino: 2}, {Name: "d", Ino: 3}}
	for _, x := range []struct {
		l    []api.Entry
		name string
		ino  int
		want []api.Entry
	}{
		{nil, "a", 1, []api.Entry{{Name: "a", Ino: 1}}},
		{[]api.Entry{}, "a", 9, []api.Entry{{Name: "a", Ino: 9}}},
		{two[:1], "a", 9, []api.Entry{{Name: "a", Ino: 9}, {Name: "b", Ino: 2}}},
		{two[:1], "b", 9, []api.Entry{{Name: "b", Ino: 9}}},
		{two[:1], "c", 9, []api.Entry{{Name: "b", Ino: 2}, {Name: "c", Ino: 9}}},
		{two, "a", 9, []api.Entry{{Name: "a", Ino: 9}, {Name: "b", Ino: 2}, {Name: "d", Ino: 3}}},
		{two, "b", 9, []api.Entry{{Name: "b", Ino: 9}, {Name: "d", Ino: 3}}},
		{two, "c", 9, []api.Entry{{Name: "b", Ino: 2}, {Name: "c", Ino: 9}, {Name: "d", Ino: 3}}},
		{two, "d", 9, []api.Entry{{Name: "b", Ino: 2}, {Name: "d", Ino: 9}}},
		{two, "e", 9, []api.Entry{{Name: "b", Ino: 2}, {Name: "d", Ino: 3}, {Name: "e", Ino: 9}}},
		{two, "d", 3, two},
		{two, "c", 2, []api.Entry{{Name: "b", Ino: 2}, {Name: "c", Ino: 2}, {Name: "d", Ino: 3}}},
		{two, "B", math.MaxInt, []api.Entry{{Name: "B", Ino: math.MaxInt}, {Name: "b", Ino: 2}, {Name: "d", Ino: 3}}},
		{two, "bb", 9, []api.Entry{{Name: "b", Ino: 2}, {Name: "bb", Ino: 9}, {Name: "d", Ino: 3}}},
		{two, a255, 9, []api.Entry{{Name: a255, Ino: 9}, {Name: "b", Ino: 2}, {Name: "d", Ino: 3}}},
		{[]api.Entry{{Name: "a", Ino: 2}, {Name: "c", Ino: 3}}, "b", 5, []api.Entry{{Name: "a", Ino: 2}, {Name: "b", Ino: 5}, {Name: "c", Ino: 3}}},
	} {
		if got := With(x.l, x.name, x.ino); !slices.Equal(got, x.want) {
			t.Errorf("With(%#v, %q, %d): %#v, not %#v", x.l, x.name, x.ino, got, x.want)
		}
	}
}

func TestWithout(t *testing.T) {
	three := entries("b", "d", "f")
	for _, x := range []struct {
		l    []api.Entry
		name string
		want []api.Entry
	}{
		{nil, "a", nil},
		{[]api.Entry{}, "a", nil},
		{three[:1], "b", nil},
		{three[:1], "a", three[:1]},
		{three[:1], "c", three[:1]},
		{three, "b", []api.Entry{{Name: "d", Ino: 3}, {Name: "f", Ino: 4}}},
		{three, "d", []api.Entry{{Name: "b", Ino: 2}, {Name: "f", Ino: 4}}},
		{three, "f", []api.Entry{{Name: "b", Ino: 2}, {Name: "d", Ino: 3}}},
	} {
		if got := Without(x.l, x.name); !slices.Equal(got, x.want) {
			t.Errorf("Without(%#v, %q): %#v, not %#v", x.l, x.name, got, x.want)
		}
	}
	for _, name := range slices.Concat([]string{"a", "c", "e", "g", "B", "bb", "b ", "b\x00", "b/", "\xff"}, wrong) {
		if got := Without(three, name); !slices.Equal(got, three) {
			t.Errorf("Without(%#v, %q): %#v", three, name, got)
		}
	}
}

func TestAllPutInAndTakenAway(t *testing.T) {
	for _, names := range parts(few[:10]) {
		l := entries(names...)
		for _, name := range few {
			if got, want := With(l, name, 99), added(l, api.Entry{Name: name, Ino: 99}); !slices.Equal(got, want) || !Right(got) {
				t.Errorf("With(%#v, %q, 99): %#v, not %#v", l, name, got, want)
			}
			if got, want := Without(l, name), taken(l, name); !slices.Equal(got, want) || !Right(got) {
				t.Errorf("Without(%#v, %q): %#v, not %#v", l, name, got, want)
			}
		}
		for _, name := range wrong {
			if got := Without(l, name); !slices.Equal(got, l) {
				t.Errorf("Without(%#v, %q): %#v", l, name, got)
			}
		}
	}
}

func TestWhateverTheOrder(t *testing.T) {
	want := entries("-", "...", "A", "a", "ab", "b")
	for _, order := range orders(want) {
		var l []api.Entry
		for _, e := range order {
			l = With(l, e.Name, e.Ino)
		}
		if !slices.Equal(l, want) {
			t.Errorf("With of %#v, one by one: %#v", order, l)
		}
		for i, e := range order {
			l = Without(l, e.Name)
			if len(l) != len(order)-i-1 || !Right(l) {
				t.Errorf("Without of %#v, one by one, up to %q: %#v", order, e.Name, l)
			}
		}
	}
}

func TestWhatComesLastHolds(t *testing.T) {
	var l []api.Entry
	for ino := range 10 {
		l = With(With(l, "a", ino+1), "b", 10-ino)
		if want := []api.Entry{{Name: "a", Ino: ino + 1}, {Name: "b", Ino: 10 - ino}}; !slices.Equal(l, want) {
			t.Errorf("With of two names, time after time: %#v, not %#v", l, want)
		}
	}
}

func TestManyEntries(t *testing.T) {
	const many = 1 << 10
	var l, want []api.Entry
	for i := range many {
		// The factor is odd, so that each name of so many comes once, and none in its order.
		n := i * 389 % many
		l = With(l, string([]byte{byte(n>>5) + 0x30, byte(n&31) + 0x30}), n+1)
	}
	for n := range many {
		want = append(want, api.Entry{Name: string([]byte{byte(n>>5) + 0x30, byte(n&31) + 0x30}), Ino: n + 1})
	}
	if !slices.Equal(l, want) || !Right(l) {
		t.Errorf("%d entries, put in one by one: %d, or others", many, len(l))
	}
	for _, e := range want {
		if ino, ok := Find(l, e.Name); ino != e.Ino || !ok {
			t.Errorf("Find of %q among many: %d, %v", e.Name, ino, ok)
		}
	}
	for i, e := range want {
		l = Without(l, e.Name)
		if !slices.Equal(l, want[i+1:]) {
			t.Fatalf("Without of %q among many: %d entries, or others", e.Name, len(l))
		}
	}
}

// P4.3

func TestHandedInStays(t *testing.T) {
	room := entries("b", "d", "f", "h", "j")
	was := slices.Clone(room)
	for size := range len(room) + 1 {
		// The list has room behind its length, which may not be written into either.
		l := room[:size]
		for _, name := range []string{"a", "b", "c", "d", "e", "f", "g", "h", "i", "j", "k", "", "."} {
			Right(l)
			Find(l, name)
			Names(l)
			Without(l, name)
			if mayBe(name) {
				With(l, name, 99)
			}
			if !slices.Equal(room, was) {
				t.Fatalf("%d entries, handed in with %q: %#v, not %#v", size, name, room, was)
			}
		}
	}
}

func TestListsAreNew(t *testing.T) {
	for _, name := range []string{"a", "b", "c", "d", "e", "f", "g"} {
		for way, answer := range map[string]func([]api.Entry) []api.Entry{
			"With":    func(l []api.Entry) []api.Entry { return With(l, name, 99) },
			"Without": func(l []api.Entry) []api.Entry { return Without(l, name) },
		} {
			l := entries("b", "d", "f")
			first, second := answer(l), answer(l)
			want := slices.Clone(second)
			for i := range first {
				first[i] = api.Entry{Name: "x", Ino: -1}
			}
			_ = append(first, api.Entry{Name: "y", Ino: -2})
			if !slices.Equal(l, entries("b", "d", "f")) {
				t.Errorf("%s of %q: what is answered hangs on what was handed in: %#v", way, name, l)
			}
			for i := range l {
				l[i] = api.Entry{Name: "z", Ino: -3}
			}
			if !slices.Equal(second, want) {
				t.Errorf("%s of %q: what is answered isn't new: %#v, not %#v", way, name, second, want)
			}
		}
	}
}

func TestNamesAreNew(t *testing.T) {
	l := entries("b", "d", "f")
	first, second := Names(l), Names(l)
	for i := range first {
		first[i] = "x"
	}
	_ = append(first, "y")
	if !slices.Equal(l, entries("b", "d", "f")) {
		t.Errorf("Names hang on the entries: %#v", l)
	}
	l[0].Name = "z"
	if !slices.Equal(second, []string{"b", "d", "f"}) {
		t.Errorf("Names aren't new: %q", second)
	}
}

func TestTextsAreNew(t *testing.T) {
	l := entries("b", "d", a255)
	slices.SortFunc(l, func(x, y api.Entry) int { return held(x.Name, y.Name) })
	was := namesOf(l)
	if anyShared(Names(l), was) || anyShared(Names(l), Names(l)) {
		t.Error("Names shares texts")
	}
	for _, name := range []string{"a", "b", "c", "d", "e", a255} {
		with, without := namesOf(With(l, name, 99)), namesOf(Without(l, name))
		if anyShared(with, append(was, name)) || anyShared(with, namesOf(With(l, name, 99))) {
			t.Errorf("With of %.9q shares texts", name)
		}
		if anyShared(without, was) || anyShared(without, namesOf(Without(l, name))) {
			t.Errorf("Without of %.9q shares texts", name)
		}
	}
}

// The rules that hold everywhere

func TestWhateverIsHandedInIsAnswered(t *testing.T) {
	all := []api.Entry{{}, {Name: "a", Ino: 2}, {Name: "b", Ino: -1}, {Name: "..", Ino: 1}, {Name: a256, Ino: math.MinInt}}
	for _, l := range slices.Concat(orders(all), [][]api.Entry{nil, {}, slices.Repeat(all[1:2], 5)}) {
		Right(l)
		Names(l)
		for _, name := range slices.Concat(few, wrong) {
			Find(l, name)
			With(l, name, 0)
			Without(l, name)
		}
	}
}
