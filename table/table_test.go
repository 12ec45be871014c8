package table

import (
	"math"
	"reflect"
	"slices"
	"strconv"
	"strings"
	"testing"
	"unsafe"

	"drayman/api"
)

// numbers are those of which tables are made here, rising.
var numbers = []int{math.MinInt, -3, 0, 1, 2, 5, math.MaxInt}

// asked are numbers that are looked for: each of the numbers, and others ahead of, between and behind them.
var asked = []int{math.MinInt, math.MinInt + 1, -4, -3, -2, -1, 0, 1, 2, 3, 4, 5, 6, math.MaxInt - 1, math.MaxInt}

// inodeOf answers an inode of that number, with something in each of its fields.
func inodeOf(ino int) api.Inode {
	name := strconv.Itoa(ino)
	return api.Inode{Ino: ino, Kind: api.Dir, Links: 3, Data: "data of " + name, Parent: 7, Entries: []api.Entry{{Name: "a" + name, Ino: 4}, {Name: "b" + name, Ino: 6}}}
}

// tableOf answers a table of inodes of these numbers.
func tableOf(l ...int) api.Fs {
	f := api.Fs{MaxInodes: 10, MaxBytes: 100, Next: 9}
	for _, ino := range l {
		f.Inodes = append(f.Inodes, inodeOf(ino))
	}
	return f
}

// parts answers all lists of some of the numbers, in their order.
func parts(numbers []int) [][]int {
	all := [][]int{nil}
	for _, ino := range numbers {
		for _, l := range slices.Clone(all) {
			all = append(all, append(slices.Clone(l), ino))
		}
	}
	return all
}

// orders answers all orders of the numbers.
func orders(l []int) [][]int {
	if len(l) == 0 {
		return [][]int{nil}
	}
	var all [][]int
	for i, ino := range l {
		for _, rest := range orders(slices.Concat(l[:i], l[i+1:])) {
			all = append(all, append([]int{ino}, rest...))
		}
	}
	return all
}

// copied answers the table in lists of its own, those that are empty as nil.
func copied(f api.Fs) api.Fs {
	var inodes []api.Inode
	for _, x := range f.Inodes {
		x.Entries = append([]api.Entry(nil), x.Entries...)
		inodes = append(inodes, x)
	}
	f.Inodes = inodes
	return f
}

// alike tells whether two tables read alike.
func alike(a, b api.Fs) bool {
	return reflect.DeepEqual(copied(a), copied(b))
}

// inodesAlike tells whether two inodes read alike.
func inodesAlike(x, y api.Inode) bool {
	return alike(api.Fs{Inodes: []api.Inode{x}}, api.Fs{Inodes: []api.Inode{y}})
}

// taken answers, of the chapter's words alone, the table without the number's inode.
func taken(f api.Fs, ino int) api.Fs {
	var rest []api.Inode
	for _, x := range f.Inodes {
		if x.Ino != ino {
			rest = append(rest, x)
		}
	}
	f.Inodes = rest
	return f
}

// added answers, of the chapter's words alone, the table with one inode more, or with that one in place of its number's.
func added(f api.Fs, x api.Inode) api.Fs {
	var ahead, behind []api.Inode
	for _, y := range taken(f, x.Ino).Inodes {
		if y.Ino < x.Ino {
			ahead = append(ahead, y)
		} else {
			behind = append(behind, y)
		}
	}
	f.Inodes = slices.Concat(ahead, []api.Inode{x}, behind)
	return f
}

// shares tells whether two texts have memory in common.
func shares(a, b string) bool {
	if a == "" || b == "" {
		return false
	}
	x, y := uintptr(unsafe.Pointer(unsafe.StringData(a))), uintptr(unsafe.Pointer(unsafe.StringData(b)))
	return x < y+uintptr(len(b)) && y < x+uintptr(len(a))
}

// anyShared tells whether the Data of an inode of the one list have memory in common with those of one of the other.
func anyShared(a, b []api.Inode) bool {
	return slices.ContainsFunc(a, func(x api.Inode) bool {
		return slices.ContainsFunc(b, func(y api.Inode) bool { return shares(x.Data, y.Data) })
	})
}

// ways answers the calls that answer a table, by what is done.
func ways() map[string]func(api.Fs) api.Fs {
	all := map[string]func(api.Fs) api.Fs{
		"Take": func(f api.Fs) api.Fs {
			g, _ := Take(f)
			return g
		},
	}
	for _, ino := range asked {
		all["Set of "+strconv.Itoa(ino)] = func(f api.Fs) api.Fs { return Set(f, inodeOf(ino)) }
		all["Drop of "+strconv.Itoa(ino)] = func(f api.Fs) api.Fs { return Drop(f, ino) }
	}
	return all
}

// P5.1

func TestNew(t *testing.T) {
	const most = 1 << 30
	for _, inodes := range []int{1, 2, 10, most - 1, most} {
		for _, bytes := range []int{0, 1, 100, most - 1, most} {
			want := api.Fs{MaxInodes: inodes, MaxBytes: bytes, Next: 2, Inodes: []api.Inode{{Ino: 1, Kind: api.Dir, Parent: 1}}}
			if got, e := New(inodes, bytes); e != api.OK || !alike(got, want) {
				t.Errorf("New(%d, %d): %+v, %d", inodes, bytes, got, e)
			}
		}
	}
}

func TestNewOfWrongCounts(t *testing.T) {
	const most = 1 << 30
	wrongInodes := []int{math.MinInt, -most, -1, 0, most + 1, 1 << 31, 1 << 32, math.MaxInt}
	wrongBytes := []int{math.MinInt, -most, -1, most + 1, 1 << 31, 1 << 32, math.MaxInt}
	refused := func(inodes, bytes int) {
		if got, e := New(inodes, bytes); e != api.ErrArg || !reflect.DeepEqual(got, api.Fs{}) {
			t.Errorf("New(%d, %d): %+v, %d", inodes, bytes, got, e)
		}
	}
	for _, inodes := range wrongInodes {
		for _, bytes := range slices.Concat(wrongBytes, []int{0, 1, most}) {
			refused(inodes, bytes)
		}
	}
	for _, bytes := range wrongBytes {
		for _, inodes := range []int{1, 2, most} {
			refused(inodes, bytes)
		}
	}
}

// P5.2

func TestGet(t *testing.T) {
	f := tableOf(1, 2, 5, 1<<40)
	for _, ino := range []int{1, 2, 5, 1 << 40} {
		if got, ok := Get(f, ino); !ok || !inodesAlike(got, inodeOf(ino)) {
			t.Errorf("Get of %d: %+v, %v", ino, got, ok)
		}
	}
	f, _ = New(10, 100)
	if got, ok := Get(f, api.Root); !ok || !inodesAlike(got, api.Inode{Ino: 1, Kind: api.Dir, Parent: 1}) {
		t.Errorf("Get of Root in a new table: %+v, %v", got, ok)
	}
}

func TestGetOfNoInode(t *testing.T) {
	for _, f := range []api.Fs{{}, {Inodes: []api.Inode{}}, tableOf(1), tableOf(2, 5), tableOf(1, 2, 5)} {
		for _, ino := range []int{math.MinInt, -1, 0, 3, 4, 6, math.MaxInt} {
			if got, ok := Get(f, ino); ok || !reflect.DeepEqual(got, api.Inode{}) {
				t.Errorf("Get of %d in %+v: %+v, %v", ino, f, got, ok)
			}
		}
	}
}

func TestSet(t *testing.T) {
	other := api.Inode{Kind: api.File, Links: 1, Data: "x"}
	for _, x := range []struct {
		was   []int
		ino   int
		place int
		size  int
	}{
		{nil, 1, 0, 1},
		{[]int{1}, 1, 0, 1},
		{[]int{1}, 2, 1, 2},
		{[]int{2}, 1, 0, 2},
		{[]int{2, 4, 6}, 1, 0, 4},
		{[]int{2, 4, 6}, 2, 0, 3},
		{[]int{2, 4, 6}, 3, 1, 4},
		{[]int{2, 4, 6}, 4, 1, 3},
		{[]int{2, 4, 6}, 5, 2, 4},
		{[]int{2, 4, 6}, 6, 2, 3},
		{[]int{2, 4, 6}, 7, 3, 4},
		{[]int{2, 4, 6}, -1, 0, 4},
		{[]int{2, 4, 6}, math.MinInt, 0, 4},
		{[]int{2, 4, 6}, math.MaxInt, 3, 4},
	} {
		other.Ino = x.ino
		got := Set(tableOf(x.was...), other)
		if len(got.Inodes) != x.size || !inodesAlike(got.Inodes[x.place], other) {
			t.Errorf("Set of %d in a table of %d: %+v", x.ino, x.was, got)
			continue
		}
		// What is left, when that one is cut out, must be the others, untouched.
		got.Inodes = slices.Delete(got.Inodes, x.place, x.place+1)
		if want := taken(tableOf(x.was...), x.ino); !alike(got, want) {
			t.Errorf("Set of %d in a table of %d: beside it %+v, not %+v", x.ino, x.was, got, want)
		}
	}
}

func TestSetAsItIs(t *testing.T) {
	f := tableOf(1, 2, 5)
	for _, ino := range []int{1, 2, 5} {
		if got := Set(f, inodeOf(ino)); !alike(got, f) {
			t.Errorf("Set of %d as it is: %+v", ino, got)
		}
	}
}

func TestDrop(t *testing.T) {
	for _, x := range []struct {
		was  []int
		ino  int
		want []int
	}{
		{nil, 1, nil},
		{[]int{}, 0, nil},
		{[]int{1}, 1, nil},
		{[]int{1}, 2, []int{1}},
		{[]int{1}, 0, []int{1}},
		{[]int{2, 4, 6}, 2, []int{4, 6}},
		{[]int{2, 4, 6}, 4, []int{2, 6}},
		{[]int{2, 4, 6}, 6, []int{2, 4}},
		{[]int{2, 4, 6}, 1, []int{2, 4, 6}},
		{[]int{2, 4, 6}, 3, []int{2, 4, 6}},
		{[]int{2, 4, 6}, 5, []int{2, 4, 6}},
		{[]int{2, 4, 6}, 7, []int{2, 4, 6}},
		{[]int{2, 4, 6}, 0, []int{2, 4, 6}},
		{[]int{2, 4, 6}, -2, []int{2, 4, 6}},
		{[]int{2, 4, 6}, math.MinInt, []int{2, 4, 6}},
		{[]int{2, 4, 6}, math.MaxInt, []int{2, 4, 6}},
	} {
		if got, want := Drop(tableOf(x.was...), x.ino), tableOf(x.want...); !alike(got, want) {
			t.Errorf("Drop of %d in a table of %d: %+v, not %+v", x.ino, x.was, got, want)
		}
	}
}

func TestTake(t *testing.T) {
	f, _ := New(10, 100)
	first, two := Take(f)
	second, three := Take(first)
	if two != 2 || three != 3 || first.Next != 3 || second.Next != 4 || f.Next != 2 {
		t.Errorf("Take twice: %d and %d, Next %d and %d, of %d", two, three, first.Next, second.Next, f.Next)
	}
	for _, l := range parts(numbers) {
		for _, next := range []int{math.MinInt, -1, 0, 1, 2, 9, 1 << 40, 1<<62 - 1} {
			f := tableOf(l...)
			f.Next = next
			want := f
			want.Next = next + 1
			if got, was := Take(f); was != next || !alike(got, want) {
				t.Errorf("Take of %+v: %+v, %d", f, got, was)
			}
		}
	}
}

func TestAllPutInFoundAndDropped(t *testing.T) {
	for _, l := range parts(numbers) {
		f := tableOf(l...)
		for _, ino := range asked {
			got, ok := Get(f, ino)
			if ok != slices.Contains(l, ino) || ok && !inodesAlike(got, inodeOf(ino)) || !ok && !reflect.DeepEqual(got, api.Inode{}) {
				t.Errorf("Get of %d in a table of %d: %+v, %v", ino, l, got, ok)
			}
			x := api.Inode{Ino: ino, Kind: api.Sym, Links: 1, Data: "x"}
			if got, want := Set(f, x), added(f, x); !alike(got, want) {
				t.Errorf("Set of %d in a table of %d: %+v, not %+v", ino, l, got, want)
			}
			if got, want := Drop(f, ino), taken(f, ino); !alike(got, want) {
				t.Errorf("Drop of %d in a table of %d: %+v, not %+v", ino, l, got, want)
			}
		}
	}
}

func TestWhateverTheOrder(t *testing.T) {
	l := []int{-3, 0, 1, 2, 5, math.MaxInt}
	for _, order := range orders(l) {
		f := tableOf()
		for _, ino := range order {
			f = Set(f, inodeOf(ino))
		}
		if !alike(f, tableOf(l...)) {
			t.Errorf("Set of %d, one by one: %+v", order, f)
		}
		for i, ino := range order {
			f = Drop(f, ino)
			if _, ok := Get(f, ino); ok || len(f.Inodes) != len(l)-i-1 {
				t.Errorf("Drop of %d, one by one, up to %d: %+v", order, ino, f)
			}
		}
	}
}

func TestWhatComesLastHolds(t *testing.T) {
	f := tableOf(1, 2, 3)
	for i := range 10 {
		x := api.Inode{Ino: 2, Kind: api.File, Links: i, Data: strings.Repeat("x", i)}
		f = Set(f, x)
		if got, ok := Get(f, 2); !ok || !inodesAlike(got, x) || len(f.Inodes) != 3 {
			t.Errorf("Set, time after time, %d: %+v", i, f)
		}
	}
}

func TestManyInodes(t *testing.T) {
	const many = 1 << 10
	f, want := tableOf(), tableOf()
	for i := range many {
		// The factor is odd, so that each number of so many comes once, and none in its order.
		f = Set(f, inodeOf(i*389%many+1))
		want.Inodes = append(want.Inodes, inodeOf(i+1))
	}
	if !alike(f, want) {
		t.Fatalf("%d inodes, put in one by one: %d, or others", many, len(f.Inodes))
	}
	for ino := range many + 2 {
		got, ok := Get(f, ino)
		if there := ino >= 1 && ino <= many; ok != there || there && !inodesAlike(got, inodeOf(ino)) {
			t.Errorf("Get of %d among many: %+v, %v", ino, got, ok)
		}
	}
	for i := range many {
		f, want = Drop(f, i+1), taken(want, i+1)
		if !alike(f, want) {
			t.Fatalf("Drop of %d among many: %d inodes, or others", i+1, len(f.Inodes))
		}
	}
}

// P5.3

// changes answers ways to make another table of one of inodes 1, 2 and 5.
func changes() map[string]func(*api.Fs) {
	return map[string]func(*api.Fs){
		"MaxInodes":         func(f *api.Fs) { f.MaxInodes++ },
		"MaxBytes":          func(f *api.Fs) { f.MaxBytes-- },
		"Next":              func(f *api.Fs) { f.Next = 0 },
		"Inodes":            func(f *api.Fs) { f.Inodes = nil },
		"first Ino":         func(f *api.Fs) { f.Inodes[0].Ino = 0 },
		"last Ino":          func(f *api.Fs) { f.Inodes[2].Ino = -5 },
		"Kind":              func(f *api.Fs) { f.Inodes[0].Kind = api.File },
		"Links":             func(f *api.Fs) { f.Inodes[1].Links++ },
		"Data":              func(f *api.Fs) { f.Inodes[1].Data += "\x00" },
		"no Data":           func(f *api.Fs) { f.Inodes[1].Data = "" },
		"last Data":         func(f *api.Fs) { f.Inodes[2].Data = strings.ToUpper(f.Inodes[2].Data) },
		"Parent":            func(f *api.Fs) { f.Inodes[2].Parent = 0 },
		"Entries":           func(f *api.Fs) { f.Inodes[0].Entries = nil },
		"entry's Name":      func(f *api.Fs) { f.Inodes[1].Entries[0].Name = "" },
		"last entry's Name": func(f *api.Fs) { f.Inodes[2].Entries[1].Name += "b" },
		"entry's Ino":       func(f *api.Fs) { f.Inodes[0].Entries[0].Ino = 0 },
		"last entry's Ino":  func(f *api.Fs) { f.Inodes[2].Entries[1].Ino++ },
		"entry less":        func(f *api.Fs) { f.Inodes[1].Entries = f.Inodes[1].Entries[:1] },
		"first entry less":  func(f *api.Fs) { f.Inodes[1].Entries = f.Inodes[1].Entries[1:] },
		"entry more":        func(f *api.Fs) { f.Inodes[1].Entries = append(f.Inodes[1].Entries, api.Entry{}) },
		"entries' order":    func(f *api.Fs) { slices.Reverse(f.Inodes[1].Entries) },
		"inode less":        func(f *api.Fs) { f.Inodes = f.Inodes[:2] },
		"first inode less":  func(f *api.Fs) { f.Inodes = f.Inodes[1:] },
		"inode more":        func(f *api.Fs) { f.Inodes = append(f.Inodes, api.Inode{}) },
		"inode twice":       func(f *api.Fs) { f.Inodes = append(f.Inodes, f.Inodes[2]) },
		"inodes' order":     func(f *api.Fs) { slices.Reverse(f.Inodes) },
		"two inodes' order": func(f *api.Fs) { f.Inodes[1], f.Inodes[2] = f.Inodes[2], f.Inodes[1] },
	}
}

func TestSame(t *testing.T) {
	tables := []api.Fs{{}, {Inodes: []api.Inode{{}}}, {Inodes: []api.Inode{{}, {}}}, {Next: math.MinInt, MaxBytes: -1}}
	for _, l := range parts(numbers) {
		tables = append(tables, tableOf(l...))
	}
	// Of tables that aren't right, too, and of those that hold one number twice.
	tables = append(tables, tableOf(2, 1), tableOf(5, 2, 1), tableOf(1, 1), tableOf(1, 1, 2))
	for i, a := range tables {
		for j, b := range tables {
			if Same(a, copied(b)) != (i == j) {
				t.Errorf("Same of %+v and %+v: %v", a, b, i != j)
			}
		}
	}
}

func TestSameOfTablesThatDifferInOne(t *testing.T) {
	for what, change := range changes() {
		f := tableOf(1, 2, 5)
		change(&f)
		if Same(f, tableOf(1, 2, 5)) || Same(tableOf(1, 2, 5), f) {
			t.Errorf("Same of a table and one of other %s: true", what)
		}
		if !Same(f, copied(f)) {
			t.Errorf("Same of a table with other %s and itself: false", what)
		}
		for other, change := range changes() {
			g := tableOf(1, 2, 5)
			change(&g)
			if Same(f, g) != (what == other) {
				t.Errorf("Same of other %s and other %s: %v", what, other, what != other)
			}
		}
	}
}

func TestSameOfNilAndEmptyLists(t *testing.T) {
	if f, g := (api.Fs{}), (api.Fs{Inodes: []api.Inode{}}); !Same(f, g) || !Same(g, f) {
		t.Error("Same of nil and empty Inodes: false")
	}
	f := api.Fs{Inodes: []api.Inode{{Ino: 1}}}
	g := api.Fs{Inodes: []api.Inode{{Ino: 1, Entries: []api.Entry{}}}}
	if !Same(f, g) || !Same(g, f) {
		t.Error("Same of nil and empty Entries: false")
	}
}

func TestSameOfWhatIsAnswered(t *testing.T) {
	f, _ := New(10, 100)
	g := Drop(Set(f, inodeOf(2)), 2)
	if !Same(f, g) {
		t.Errorf("Set, and Drop of that: %+v", g)
	}
	if g, _ := Take(f); Same(f, g) {
		t.Errorf("Take: %+v, as it was", g)
	}
}

// P5.4

func TestHandedInStays(t *testing.T) {
	// Inodes and entries have room behind their lengths, which may not be written into either.
	whole := tableOf(-3, 0, 1, 2, 5)
	short := copied(whole)
	for i, x := range whole.Inodes {
		short.Inodes[i].Entries = x.Entries[:1]
	}
	wholeWas, shortWas := copied(whole), copied(short)
	for size := range len(short.Inodes) + 1 {
		f := short
		f.Inodes = short.Inodes[:size]
		for _, ino := range asked {
			Get(f, ino)
			Set(f, inodeOf(ino))
			Drop(f, ino)
		}
		Take(f)
		Same(f, f)
		Same(f, whole)
		if !alike(short, shortWas) || !alike(whole, wholeWas) {
			t.Fatalf("%d inodes, handed in: %+v, not %+v", size, short, shortWas)
		}
	}
}

func TestInodeHandedInStays(t *testing.T) {
	entries := inodeOf(2).Entries
	x := inodeOf(2)
	x.Entries = x.Entries[:1]
	Drop(Set(Set(tableOf(1, 5), x), inodeOf(3)), 5)
	if !slices.Equal(entries, inodeOf(2).Entries) || len(x.Entries) != 1 {
		t.Errorf("an inode, put in: %+v, of entries %+v", x, entries)
	}
}

func TestListsAreNew(t *testing.T) {
	for what, way := range ways() {
		for _, l := range [][]int{nil, {1}, {1, 2, 5}} {
			f := tableOf(l...)
			first, second := way(f), way(f)
			want := copied(second)
			// The room behind an answer's list may not be another list's either.
			written := first.Inodes[:cap(first.Inodes)]
			for i := range written {
				written[i] = api.Inode{Ino: -9}
			}
			if !alike(f, tableOf(l...)) {
				t.Errorf("%s in a table of %d: what was handed in hangs on what is answered: %+v", what, l, f)
			}
			for i := range f.Inodes {
				f.Inodes[i] = api.Inode{Ino: -8}
			}
			if !alike(second, want) {
				t.Errorf("%s in a table of %d: what is answered isn't new: %+v, not %+v", what, l, second, want)
			}
		}
	}
}

func TestNewTablesAreNew(t *testing.T) {
	first, _ := New(1, 0)
	second, _ := New(1, 0)
	first.Inodes[0] = api.Inode{}
	third, _ := New(1, 0)
	if len(second.Inodes) != 1 || second.Inodes[0].Ino != api.Root || len(third.Inodes) != 1 || third.Inodes[0].Ino != api.Root {
		t.Errorf("new tables share their inodes: %+v, %+v", second, third)
	}
}

func TestTextsAreNew(t *testing.T) {
	f := tableOf(1, 2, 5)
	for what, way := range ways() {
		first, second := way(f), way(f)
		if anyShared(first.Inodes, f.Inodes) || anyShared(first.Inodes, second.Inodes) {
			t.Errorf("%s shares texts", what)
		}
	}
	x := inodeOf(3)
	if g := Set(f, x); anyShared(g.Inodes, []api.Inode{x}) {
		t.Error("Set shares the text of what is put in")
	}
	first, _ := Get(f, 2)
	second, _ := Get(f, 2)
	if anyShared([]api.Inode{first}, append(f.Inodes, second)) {
		t.Error("Get shares texts")
	}
}

// The rules that hold everywhere

func TestWhateverIsHandedInIsAnswered(t *testing.T) {
	for _, l := range slices.Concat(orders(numbers[1:6]), [][]int{nil, {1, 1}, {2, 1}, {5, 5, 5, 1, 1}}) {
		f := tableOf(l...)
		for _, ino := range asked {
			Get(f, ino)
			Set(f, api.Inode{Ino: ino})
			Drop(f, ino)
		}
		f.Next = math.MaxInt
		Take(f)
		Same(f, tableOf(l...))
	}
}
