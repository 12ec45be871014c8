package shape

import (
	"cmp"
	"fmt"
	"math"
	"reflect"
	"slices"
	"strings"
	"testing"
	"unsafe"

	"drayman/api"
	"drayman/sound"
	"drayman/table"
	"drayman/walk"
)

// named is an entry of a tree: where it stands, and the inode that it names, whose Data are of a file or a link alone.
type named struct {
	path string
	kind int
	ino  int
	data string
}

// treeOf answers the file system of these entries, a directory's own ahead of those in it.
func treeOf(entries ...named) api.Fs {
	inodes := map[int]*api.Inode{1: {Ino: 1, Kind: api.Dir, Parent: 1}}
	dirs := map[string]*api.Inode{"": inodes[1]}
	next := 2
	for _, n := range entries {
		cut := strings.LastIndexByte(n.path, '/')
		dir := dirs[n.path[:cut]]
		dir.Entries = append(dir.Entries, api.Entry{Name: n.path[cut+1:], Ino: n.ino})
		if inodes[n.ino] == nil {
			inodes[n.ino] = &api.Inode{Ino: n.ino, Kind: n.kind, Data: n.data}
		}
		inodes[n.ino].Links++
		if n.kind == api.Dir {
			inodes[n.ino].Parent = dir.Ino
			dirs[n.path] = inodes[n.ino]
		}
		next = max(next, n.ino+1)
	}
	f := api.Fs{MaxInodes: api.MaxCount, MaxBytes: api.MaxCount, Next: next}
	for _, x := range inodes {
		slices.SortFunc(x.Entries, func(a, b api.Entry) int { return cmp.Compare(a.Name, b.Name) })
		f.Inodes = append(f.Inodes, *x)
	}
	slices.SortFunc(f.Inodes, func(x, y api.Inode) int { return cmp.Compare(x.Ino, y.Ino) })
	return f
}

// treesEntries answers the entries of a tree of directories in one another, two of them without entries, of files of one name, of two and of three, and of links: to directories, to a file and to nothing, one of them of two names.
func treesEntries() []named {
	return []named{
		{"/z", api.Dir, 6, ""},
		{"/a", api.File, 4, "abc"},
		{"/d", api.Dir, 3, ""},
		{"/d-", api.File, 11, ""},
		{"/d/e", api.Dir, 12, ""},
		{"/d/-", api.Sym, 8, "d/e"},
		{"/d/f", api.File, 7, "\x00\xff"},
		{"/d/g", api.File, 7, "\x00\xff"},
		{"/d/z", api.Dir, 5, ""},
		{"/d/e/y", api.File, 4, "abc"},
		{"/d/e/up", api.Sym, 2, ".."},
		{"/s", api.Sym, 8, "d/e"},
		{"/t", api.Sym, 9, "none"},
		{"/z/a", api.File, 4, "abc"},
		{"/z/b", api.File, 10, "abc"},
	}
}

// tree answers the tree of those entries.
func tree() api.Fs { return treeOf(treesEntries()...) }

// treesShape answers the shape of that tree.
func treesShape() []api.Shape {
	return []api.Shape{
		{Path: "/", Kind: api.Dir, Data: "", First: 0},
		{Path: "/a", Kind: api.File, Data: "abc", First: 1},
		{Path: "/d", Kind: api.Dir, Data: "", First: 2},
		{Path: "/d/-", Kind: api.Sym, Data: "d/e", First: 3},
		{Path: "/d/e", Kind: api.Dir, Data: "", First: 4},
		{Path: "/d/e/up", Kind: api.Sym, Data: "..", First: 5},
		{Path: "/d/e/y", Kind: api.File, Data: "abc", First: 1},
		{Path: "/d/f", Kind: api.File, Data: "\x00\xff", First: 7},
		{Path: "/d/g", Kind: api.File, Data: "\x00\xff", First: 7},
		{Path: "/d/z", Kind: api.Dir, Data: "", First: 9},
		{Path: "/d-", Kind: api.File, Data: "", First: 10},
		{Path: "/s", Kind: api.Sym, Data: "d/e", First: 3},
		{Path: "/t", Kind: api.Sym, Data: "none", First: 12},
		{Path: "/z", Kind: api.Dir, Data: "", First: 13},
		{Path: "/z/a", Kind: api.File, Data: "abc", First: 1},
		{Path: "/z/b", Kind: api.File, Data: "abc", First: 15},
	}
}

// rootAlone answers a file system that is new.
func rootAlone() api.Fs {
	f, _ := table.New(10, 100)
	return f
}

// rowOf answers directories each of which lies in the one ahead, of that name, as many as are asked for.
func rowOf(many int, name string) api.Fs {
	f := api.Fs{MaxInodes: api.MaxCount, Next: many + 1}
	for ino := 1; ino <= many; ino++ {
		x := api.Inode{Ino: ino, Kind: api.Dir, Links: 1, Parent: max(ino-1, 1)}
		if ino < many {
			x.Entries = []api.Entry{{Name: name, Ino: ino + 1}}
		}
		f.Inodes = append(f.Inodes, x)
	}
	f.Inodes[0].Links = 0
	return f
}

// inodeOf answers the number's inode.
func inodeOf(f api.Fs, ino int) api.Inode {
	at := slices.IndexFunc(f.Inodes, func(x api.Inode) bool { return x.Ino == ino })
	return f.Inodes[at]
}

// steps answers, of chapter 8's words alone, the walk from the number's inode by the path.
func steps(f api.Fs, ino int, p string) []api.Seen {
	all := []api.Seen{{Path: p, Ino: ino}}
	for _, e := range inodeOf(f, ino).Entries {
		all = append(all, steps(f, e.Ino, strings.TrimSuffix(p, "/")+"/"+e.Name)...)
	}
	return all
}

// straight answers, of the chapters' words alone, the shape.
func straight(f api.Fs) []api.Shape {
	all := steps(f, 1, "/")
	var shape []api.Shape
	for _, s := range all {
		x := inodeOf(f, s.Ino)
		first := slices.IndexFunc(all, func(other api.Seen) bool { return other.Ino == s.Ino })
		shape = append(shape, api.Shape{Path: s.Path, Kind: x.Kind, Data: x.Data, First: first})
	}
	return shape
}

// renumbered answers the file system whose inodes have the numbers that number answers of theirs.
func renumbered(f api.Fs, number func(ino int) int) api.Fs {
	f = copied(f)
	for i, x := range f.Inodes {
		x.Ino = number(x.Ino)
		if x.Kind == api.Dir {
			x.Parent = number(x.Parent)
		}
		for j, e := range x.Entries {
			x.Entries[j].Ino = number(e.Ino)
		}
		f.Inodes[i] = x
		f.Next = max(f.Next, x.Ino+1)
	}
	slices.SortFunc(f.Inodes, func(x, y api.Inode) int { return cmp.Compare(x.Ino, y.Ino) })
	return f
}

// backwards answers numbers, but Root's, that fall where they rose.
func backwards(ino int) int {
	if ino == api.Root {
		return ino
	}
	return 1<<20 - ino
}

// eachOrder hands each order of the list to do.
func eachOrder(l []int, do func(l []int)) {
	var from func(place int)
	from = func(place int) {
		if place == len(l) {
			do(l)
			return
		}
		for i := place; i < len(l); i++ {
			l[place], l[i] = l[i], l[place]
			from(place + 1)
			l[place], l[i] = l[i], l[place]
		}
	}
	from(0)
}

// copied answers the file system in lists of its own, those that are empty as nil.
func copied(f api.Fs) api.Fs {
	var inodes []api.Inode
	for _, x := range f.Inodes {
		x.Entries = append([]api.Entry(nil), x.Entries...)
		inodes = append(inodes, x)
	}
	f.Inodes = inodes
	return f
}

// short answers what is told of a file system, of a length that can be read.
func short(f api.Fs) string { return fmt.Sprintf("%.900s", fmt.Sprint(f)) }

// expectSound asks whether the file system is sound.
func expectSound(t *testing.T, f api.Fs) {
	t.Helper()
	if n := sound.Check(f); n != 0 {
		t.Fatalf("%s isn't sound: rule %d", short(f), n)
	}
}

// expect asks Of for the shape.
func expect(t *testing.T, what string, f api.Fs, want ...api.Shape) {
	t.Helper()
	expectSound(t, f)
	if got := Of(f); !slices.Equal(got, want) {
		t.Errorf("Of of %s: %.900s, not %.900s", what, fmt.Sprint(got), fmt.Sprint(want))
	}
}

// expectSame asks Same, both ways round, whether the two are alike in shape.
func expectSame(t *testing.T, what string, a, b api.Fs, want bool) {
	t.Helper()
	expectSound(t, a)
	expectSound(t, b)
	if Same(a, b) != want || Same(b, a) != want {
		t.Errorf("Same of %s: %v, and the other way round %v; of %s and %s", what, Same(a, b), Same(b, a), short(a), short(b))
	}
	if slices.Equal(Of(a), Of(b)) != want {
		t.Errorf("%s, and the shapes are the same: %v; of %s and %s", what, !want, short(a), short(b))
	}
}

// P16.1: Of

func TestChaptersExample(t *testing.T) {
	expect(t, "a directory with a file", treeOf(named{"/d", api.Dir, 2, ""}, named{"/d/f", api.File, 3, "abc"}),
		api.Shape{Path: "/", Kind: 2, Data: "", First: 0},
		api.Shape{Path: "/d", Kind: 2, Data: "", First: 1},
		api.Shape{Path: "/d/f", Kind: 1, Data: "abc", First: 2},
	)
}

func TestRootAlone(t *testing.T) {
	root := api.Shape{Path: "/", Kind: api.Dir, Data: "", First: 0}
	expect(t, "a new file system", rootAlone(), root)
	f := rootAlone()
	f.Inodes[0].Entries = []api.Entry{}
	expect(t, "Root with empty Entries", f, root)
	f.Next = 1 << 40
	expect(t, "Root of another Next", f, root)
}

func TestTree(t *testing.T) {
	expect(t, "the tree", tree(), treesShape()...)
}

func TestFilesOfSeveralNames(t *testing.T) {
	expect(t, "a file of three names in one directory", treeOf(
		named{"/a", api.File, 2, "x"}, named{"/b", api.File, 2, "x"}, named{"/c", api.File, 2, "x"},
	),
		api.Shape{Path: "/", Kind: api.Dir, First: 0},
		api.Shape{Path: "/a", Kind: api.File, Data: "x", First: 1},
		api.Shape{Path: "/b", Kind: api.File, Data: "x", First: 1},
		api.Shape{Path: "/c", Kind: api.File, Data: "x", First: 1},
	)
	expect(t, "two files of two names each, by turns", treeOf(
		named{"/a", api.File, 3, "x"}, named{"/b", api.File, 2, "x"}, named{"/c", api.File, 3, "x"}, named{"/d", api.File, 2, "x"},
	),
		api.Shape{Path: "/", Kind: api.Dir, First: 0},
		api.Shape{Path: "/a", Kind: api.File, Data: "x", First: 1},
		api.Shape{Path: "/b", Kind: api.File, Data: "x", First: 2},
		api.Shape{Path: "/c", Kind: api.File, Data: "x", First: 1},
		api.Shape{Path: "/d", Kind: api.File, Data: "x", First: 2},
	)
	expect(t, "a file of three names in three directories, the deepest of them first", treeOf(
		named{"/a", api.Dir, 2, ""}, named{"/a/b", api.Dir, 3, ""}, named{"/a/b/f", api.File, 4, ""}, named{"/a/c", api.File, 4, ""}, named{"/z", api.File, 4, ""}, named{"/y", api.File, 5, ""},
	),
		api.Shape{Path: "/", Kind: api.Dir, First: 0},
		api.Shape{Path: "/a", Kind: api.Dir, First: 1},
		api.Shape{Path: "/a/b", Kind: api.Dir, First: 2},
		api.Shape{Path: "/a/b/f", Kind: api.File, First: 3},
		api.Shape{Path: "/a/c", Kind: api.File, First: 3},
		api.Shape{Path: "/y", Kind: api.File, First: 5},
		api.Shape{Path: "/z", Kind: api.File, First: 3},
	)
}

func TestLinks(t *testing.T) {
	expect(t, "links to a directory, a file, nothing and themselves", treeOf(
		named{"/d", api.Dir, 2, ""}, named{"/d/f", api.File, 3, "f"}, named{"/d/root", api.Sym, 4, "/"}, named{"/f", api.Sym, 5, "d/f"}, named{"/me", api.Sym, 6, "me"}, named{"/none", api.Sym, 7, "no/where/"}, named{"/s", api.Sym, 8, "d/"},
	),
		api.Shape{Path: "/", Kind: api.Dir, First: 0},
		api.Shape{Path: "/d", Kind: api.Dir, First: 1},
		api.Shape{Path: "/d/f", Kind: api.File, Data: "f", First: 2},
		api.Shape{Path: "/d/root", Kind: api.Sym, Data: "/", First: 3},
		api.Shape{Path: "/f", Kind: api.Sym, Data: "d/f", First: 4},
		api.Shape{Path: "/me", Kind: api.Sym, Data: "me", First: 5},
		api.Shape{Path: "/none", Kind: api.Sym, Data: "no/where/", First: 6},
		api.Shape{Path: "/s", Kind: api.Sym, Data: "d/", First: 7},
	)
	expect(t, "a link of two names, and one of the same target", treeOf(
		named{"/a", api.Sym, 2, "x"}, named{"/b", api.Sym, 3, "x"}, named{"/c", api.Sym, 2, "x"},
	),
		api.Shape{Path: "/", Kind: api.Dir, First: 0},
		api.Shape{Path: "/a", Kind: api.Sym, Data: "x", First: 1},
		api.Shape{Path: "/b", Kind: api.Sym, Data: "x", First: 2},
		api.Shape{Path: "/c", Kind: api.Sym, Data: "x", First: 1},
	)
}

func TestDirectoriesInOneAnother(t *testing.T) {
	expect(t, "directories, those without entries among them", treeOf(
		named{"/b", api.Dir, 6, ""}, named{"/b/a", api.Dir, 5, ""}, named{"/b/b", api.Dir, 4, ""}, named{"/b/b/b", api.Dir, 3, ""}, named{"/b/b-", api.Dir, 2, ""}, named{"/a", api.Dir, 7, ""},
	),
		api.Shape{Path: "/", Kind: api.Dir, First: 0},
		api.Shape{Path: "/a", Kind: api.Dir, First: 1},
		api.Shape{Path: "/b", Kind: api.Dir, First: 2},
		api.Shape{Path: "/b/a", Kind: api.Dir, First: 3},
		api.Shape{Path: "/b/b", Kind: api.Dir, First: 4},
		api.Shape{Path: "/b/b/b", Kind: api.Dir, First: 5},
		api.Shape{Path: "/b/b-", Kind: api.Dir, First: 6},
	)
}

func TestLinesAsTheWalksSteps(t *testing.T) {
	eachTree(oneEach, func(f api.Fs) {
		got, all := Of(f), walk.List(f)
		if len(got) != len(all) {
			t.Fatalf("%s has %d lines, but %d steps", short(f), len(got), len(all))
		}
		for i, s := range all {
			if got[i].Path != s.Path {
				t.Fatalf("%s, line %d: %q, not %q", short(f), i, got[i].Path, s.Path)
			}
			first := slices.IndexFunc(all, func(other api.Seen) bool { return other.Ino == s.Ino })
			if got[i].First != first {
				t.Fatalf("%s, line %d: %v, whose first is %d", short(f), i, got[i], first)
			}
			if x := inodeOf(f, s.Ino); x.Kind != got[i].Kind || x.Data != got[i].Data {
				t.Fatalf("%s, line %d: %v, but the inode is %v", short(f), i, got[i], x)
			}
		}
	})
}

// The names that the entries of generated trees may have, one behind the other: neither they nor their paths rise.
var (
	oneEach  = [][]string{{"m"}, {"a"}, {"m-"}, {"Z"}}
	someEach = [][]string{{"m", "a"}, {"m", "a"}, {"m", "a", "m-"}}
)

// eachTree hands each tree of entries of these names to do, those of fewer entries, too: files, links and directories, some of the files and links of several names.
func eachTree(names [][]string, do func(f api.Fs)) { grow(nil, names, do) }

// grow hands the tree of the entries to do, and each one of more, the next ones' names being one each of the rows'.
func grow(entries []named, names [][]string, do func(f api.Fs)) {
	do(treeOf(entries...))
	if len(names) == 0 {
		return
	}
	dirs := []string{""}
	for _, n := range entries {
		if n.kind == api.Dir {
			dirs = append(dirs, n.path)
		}
	}
	for _, dir := range dirs {
		for _, name := range names[0] {
			p := dir + "/" + name
			if slices.ContainsFunc(entries, func(n named) bool { return n.path == p }) {
				continue
			}
			for _, n := range nextInodes(entries) {
				n.path = p
				grow(append(slices.Clone(entries), n), names[1:], do)
			}
		}
	}
}

// nextInodes answers what one entry more may name: a new inode of each kind, a file with or without content, or an inode that is there and no directory.
func nextInodes(entries []named) []named {
	ino := 2 + len(entries)
	all := []named{{"", api.Dir, ino, ""}, {"", api.File, ino, "x"}, {"", api.File, ino, ""}, {"", api.Sym, ino, "x"}}
	for _, n := range entries {
		if n.kind != api.Dir {
			all = append(all, n)
		}
	}
	return all
}

func TestEachTree(t *testing.T) {
	trees := 0
	eachTree(oneEach, func(f api.Fs) {
		trees++
		want := straight(f)
		for _, g := range []api.Fs{f, renumbered(f, backwards)} {
			if got := Of(g); !slices.Equal(got, want) {
				t.Fatalf("Of of %s: %v, not %v", short(g), got, want)
			}
		}
	})
	if trees < 2000 {
		t.Errorf("%d trees", trees)
	}
}

func TestLargeTrees(t *testing.T) {
	const many = 1 << 12
	f, want := rootAlone(), []api.Shape{{Path: "/", Kind: api.Dir, First: 0}}
	f.MaxInodes, f.MaxBytes = api.MaxCount, api.MaxCount
	for i := range many {
		// The second half's names are the first half's files' again, in the same order.
		ino := 2 + i%(many/2)
		f.Inodes[0].Entries = append(f.Inodes[0].Entries, api.Entry{Name: fmt.Sprintf("%08d", i), Ino: ino})
		want = append(want, api.Shape{Path: fmt.Sprintf("/%08d", i), Kind: api.File, Data: fmt.Sprint(ino), First: 1 + i%(many/2)})
	}
	for ino := 2; ino < 2+many/2; ino++ {
		f.Inodes = append(f.Inodes, api.Inode{Ino: ino, Kind: api.File, Links: 2, Data: fmt.Sprint(ino)})
	}
	f.Next = many
	expect(t, "many entries in one directory", f, want...)
	expectSame(t, "many entries in one directory", f, renumbered(f, backwards), true)
	want = nil
	for i := range many / 4 {
		want = append(want, api.Shape{Path: max("/", strings.Repeat("/n", i)), Kind: api.Dir, First: i})
	}
	expect(t, "many directories in one another", rowOf(many/4, "n"), want...)
}

func TestAFileOfManyNames(t *testing.T) {
	// If each line had Data of its own, they would be 32 GiB.
	const many, size = 1 << 13, 1 << 22
	f := rootAlone()
	f.MaxBytes = size
	for i := range many {
		f.Inodes[0].Entries = append(f.Inodes[0].Entries, api.Entry{Name: fmt.Sprintf("%08d", i), Ino: 2})
	}
	f.Inodes = append(f.Inodes, api.Inode{Ino: 2, Kind: api.File, Links: many, Data: strings.Repeat("x", size)})
	f.Next = 3
	expectSound(t, f)
	if g := renumbered(f, backwards); !Same(f, g) || !Same(g, f) {
		t.Error("Same of a large file of many names: false")
	}
	got := Of(f)
	if last := got[many]; len(got) != many+1 || last.First != 1 || len(last.Data) != size {
		t.Errorf("%d lines, the last one's First %d, and %d bytes", len(got), last.First, len(last.Data))
	}
}

// P16.1: Same

func TestSameOfItself(t *testing.T) {
	for _, f := range []api.Fs{rootAlone(), tree(), rowOf(50, "n")} {
		expectSame(t, "a file system and itself", f, f, true)
		expectSame(t, "a file system and its copy", f, copied(f), true)
	}
	f := rootAlone()
	f.Inodes[0].Entries = []api.Entry{}
	expectSame(t, "Root with nil and with empty Entries", rootAlone(), f, true)
}

func TestWhatCountsForNothing(t *testing.T) {
	for what, change := range map[string]func(f *api.Fs){
		"MaxInodes":   func(f *api.Fs) { f.MaxInodes = len(f.Inodes) },
		"MaxBytes":    func(f *api.Fs) { f.MaxBytes = 8 },
		"Next":        func(f *api.Fs) { f.Next = 1 << 40 },
		"all of them": func(f *api.Fs) { f.MaxInodes, f.MaxBytes, f.Next = 1000, 1000, 1000 },
		"numbers":     func(f *api.Fs) { *f = renumbered(*f, backwards) },
		"one number": func(f *api.Fs) {
			*f = renumbered(*f, func(ino int) int {
				if ino == 4 {
					return 99
				}
				return ino
			})
		},
	} {
		f := tree()
		change(&f)
		expectSame(t, "other "+what, tree(), f, true)
		expect(t, "the tree with other "+what, f, treesShape()...)
	}
}

// otherTrees answers trees that differ from the tree in something that can be seen.
func otherTrees() map[string]api.Fs {
	with := func(at int, n named) api.Fs {
		entries := treesEntries()
		entries[at] = n
		return treeOf(entries...)
	}
	without := func(at int) api.Fs { return treeOf(slices.Delete(treesEntries(), at, at+1)...) }
	more := func(n named) api.Fs { return treeOf(append(treesEntries(), n)...) }
	return map[string]api.Fs{
		"a file's name":               with(3, named{"/d_", api.File, 11, ""}),
		"a file's name, one longer":   with(3, named{"/d-x", api.File, 11, ""}),
		"a file's first of two names": with(6, named{"/d/F", api.File, 7, "\x00\xff"}),
		"a file's second of two":      with(7, named{"/d/h", api.File, 7, "\x00\xff"}),
		"a file's first of three":     with(1, named{"/b", api.File, 4, "abc"}),
		"a file's second of three":    with(9, named{"/d/e/x", api.File, 4, "abc"}),
		"a file's third of three":     with(13, named{"/z/aa", api.File, 4, "abc"}),
		"a link's first of two":       with(5, named{"/d/+", api.Sym, 8, "d/e"}),
		"a link's second of two":      with(11, named{"/r", api.Sym, 8, "d/e"}),
		"a link's name":               with(12, named{"/u", api.Sym, 9, "none"}),
		"an empty directory's name":   with(8, named{"/d/y", api.Dir, 5, ""}),
		"a file's place":              with(3, named{"/d/d-", api.File, 11, ""}),
		"a file's second name place":  with(7, named{"/d/e/g", api.File, 7, "\x00\xff"}),
		"a link's place":              with(12, named{"/z/t", api.Sym, 9, "none"}),
		"an empty directory's place":  with(8, named{"/d/e/z", api.Dir, 5, ""}),
		"a file's content":            with(3, named{"/d-", api.File, 11, "x"}),
		"a file's last byte":          with(14, named{"/z/b", api.File, 10, "abd"}),
		"a file's length":             with(14, named{"/z/b", api.File, 10, "abcd"}),
		"a file's letters' case":      with(14, named{"/z/b", api.File, 10, "Abc"}),
		"a link's target":             with(12, named{"/t", api.Sym, 9, "nine"}),
		"a link's target's slash":     with(12, named{"/t", api.Sym, 9, "none/"}),
		"a file, now a link":          with(14, named{"/z/b", api.Sym, 10, "abc"}),
		"a link, now a file":          with(12, named{"/t", api.File, 9, "none"}),
		"a directory, now a file":     with(8, named{"/d/z", api.File, 5, ""}),
		"a file, now a directory":     with(3, named{"/d-", api.Dir, 11, ""}),
		"one file, now two":           with(7, named{"/d/g", api.File, 20, "\x00\xff"}),
		"two files, now one":          with(14, named{"/z/b", api.File, 4, "abc"}),
		"which two are one":           swapped(),
		"one link, now two":           with(11, named{"/s", api.Sym, 20, "d/e"}),
		"a name less":                 without(7),
		"a file less":                 without(3),
		"a link less":                 without(10),
		"an empty directory less":     without(8),
		"the last line less":          treeOf(treesEntries()[:14]...),
		"a name more":                 more(named{"/zz", api.File, 4, "abc"}),
		"a first name more":           more(named{"/A", api.File, 4, "abc"}),
		"a file more":                 more(named{"/zz", api.File, 20, ""}),
		"an empty directory more":     more(named{"/zz", api.Dir, 20, ""}),
		"a directory more, the last":  more(named{"/z/z", api.Dir, 20, ""}),
		"a link more":                 more(named{"/a-", api.Sym, 20, "x"}),
		"nothing but Root":            rootAlone(),
	}
}

// swapped answers the tree in which another one of the files of the same content has but one name.
func swapped() api.Fs {
	entries := treesEntries()
	entries[13].ino, entries[14].ino = entries[14].ino, entries[13].ino
	return treeOf(entries...)
}

func TestWhatCounts(t *testing.T) {
	all := otherTrees()
	for what, f := range all {
		expectSame(t, "the tree and one of other: "+what, tree(), f, false)
		expectSame(t, "the tree, of other numbers, and one of other: "+what, renumbered(tree(), backwards), f, false)
		for other, g := range all {
			expectSame(t, what+" and "+other, f, renumbered(g, backwards), what == other)
		}
	}
}

func TestWhichNamesAreOfOneInode(t *testing.T) {
	// All ways in which four names can be of inodes that read alike.
	var ways [][]int
	for a := range 1 {
		for b := range 2 {
			for c := range 3 {
				for d := range 4 {
					way := []int{a, b, c, d}
					if c <= max(a, b)+1 && d <= max(a, b, c)+1 {
						ways = append(ways, way)
					}
				}
			}
		}
	}
	if len(ways) != 15 {
		t.Fatalf("%d ways", len(ways))
	}
	made := func(kind int, way []int) api.Fs {
		var entries []named
		for i, p := range []string{"/d", "/d/a", "/d/b", "/c", "/e"} {
			if i == 0 {
				entries = append(entries, named{p, api.Dir, 2, ""})
				continue
			}
			entries = append(entries, named{p, kind, 3 + way[i-1], "x"})
		}
		return treeOf(entries...)
	}
	for _, kind := range []int{api.File, api.Sym} {
		for i, a := range ways {
			for j, b := range ways {
				expectSame(t, fmt.Sprint(a, " and ", b), made(kind, a), renumbered(made(kind, b), backwards), i == j)
			}
		}
	}
}

func TestDirectoriesWithoutEntries(t *testing.T) {
	a, b := treeOf(named{"/a", api.Dir, 2, ""}, named{"/b", api.Dir, 3, ""}), treeOf(named{"/a", api.Dir, 2, ""}, named{"/a/b", api.Dir, 3, ""})
	expectSame(t, "beside and in one another", a, b, false)
	expectSame(t, "one and two of them", treeOf(named{"/a", api.Dir, 2, ""}), b, false)
	// The same names and kinds, one behind the other, but for the directory in which the last one lies.
	in := func(last string) api.Fs {
		return treeOf(named{"/a", api.Dir, 2, ""}, named{"/a/b", api.Dir, 3, ""}, named{last, api.File, 4, ""})
	}
	for i, p := range []string{"/c", "/a/c", "/a/b/c"} {
		for j, q := range []string{"/c", "/a/c", "/a/b/c"} {
			expectSame(t, p+" and "+q, in(p), in(q), i == j)
		}
	}
	file := treeOf(named{"/a", api.File, 2, ""})
	expectSame(t, "one and an empty file", treeOf(named{"/a", api.Dir, 2, ""}), file, false)
}

func TestEachTwoTrees(t *testing.T) {
	type seen struct {
		f    api.Fs
		told string
	}
	var trees []seen
	eachTree(someEach, func(f api.Fs) { trees = append(trees, seen{f, fmt.Sprintf("%#v", straight(f))}) })
	alike := 0
	for _, a := range trees {
		g := renumbered(a.f, backwards)
		for _, b := range trees {
			want := a.told == b.told
			if Same(g, b.f) != want {
				t.Fatalf("Same of %s and %s: %v", short(g), short(b.f), !want)
			}
			if want {
				alike++
			}
		}
	}
	if alike < len(trees) || len(trees) < 500 {
		t.Errorf("%d trees, %d pairs that are alike", len(trees), alike)
	}
}

func TestSameOfDeepTrees(t *testing.T) {
	// The shape of one of these would take 512 GiB.
	const deep = 1 << 16
	name := strings.Repeat("n", api.MaxName)
	a, b := rowOf(deep, name), renumbered(rowOf(deep, name), backwards)
	if !Same(a, b) || !Same(b, a) {
		t.Error("Same of deep trees of other numbers: false")
	}
	b.Inodes[2].Entries = []api.Entry{{Name: name[1:] + "m", Ino: b.Inodes[2].Entries[0].Ino}}
	expectSound(t, b)
	if Same(a, b) || Same(b, a) {
		t.Error("Same of deep trees of other names: true")
	}
	c := rowOf(deep-1, name)
	if Same(a, c) || Same(c, a) {
		t.Error("Same of deep trees, one of them deeper: true")
	}
}

// P16.2

// expectHas asks Has for one inode's Kind and Data.
func expectHas(t *testing.T, f api.Fs, data string, kind int, want bool) {
	t.Helper()
	if got := Has(f, data, kind); got != want {
		t.Errorf("Has of %.100q and kind %d in %s: %v", data, kind, short(f), got)
	}
}

// noKinds answers numbers that are no inode's Kind.
func noKinds() []int {
	return []int{math.MinInt, math.MinInt + 1, -3, -2, -1, 0, 4, 5, 256, 257, 258, 259, 1 << 32, 1<<32 + 1, 1<<32 + 2, math.MaxInt - 1, math.MaxInt}
}

func TestHas(t *testing.T) {
	kinds := append(noKinds(), api.File, api.Dir, api.Sym)
	f := tree()
	expectSound(t, f)
	held := map[string]bool{}
	for _, x := range f.Inodes {
		held[fmt.Sprint(x.Kind, x.Data)] = true
		expectHas(t, f, x.Data, x.Kind, true)
	}
	for _, data := range []string{"", "abc", "\x00\xff", "d/e", "..", "none", "x", "ab", "bc", "abcd", "ABC", "\x00", "/", "a", "\x00\xff\x00", "d/e/", "."} {
		for _, kind := range kinds {
			expectHas(t, f, data, kind, held[fmt.Sprint(kind, data)])
		}
	}
	for data, kind := range map[string]int{"abc": api.File, "\x00\xff": api.File, "d/e": api.Sym, "..": api.Sym, "none": api.Sym} {
		for _, other := range []int{api.File, api.Dir, api.Sym} {
			expectHas(t, f, data, other, other == kind)
		}
	}
}

func TestHasOfTheEmptyText(t *testing.T) {
	for _, f := range []api.Fs{rootAlone(), treeOf(named{"/f", api.File, 2, "x"}, named{"/s", api.Sym, 3, "x"})} {
		expectHas(t, f, "", api.Dir, true)
		expectHas(t, f, "", api.File, false)
		expectHas(t, f, "", api.Sym, false)
	}
	f := treeOf(named{"/f", api.File, 2, ""})
	expectHas(t, f, "", api.File, true)
	expectHas(t, f, "", api.Sym, false)
	for _, kind := range noKinds() {
		expectHas(t, f, "", kind, false)
		expectHas(t, rootAlone(), "", kind, false)
	}
}

func TestHasOfEachPlace(t *testing.T) {
	// The inode may be the first, the last, or stand deep in the tree.
	f := treeOf(named{"/a", api.File, 2, "first"}, named{"/d", api.Dir, 3, ""}, named{"/d/e", api.Dir, 4, ""}, named{"/d/e/s", api.Sym, 5, "deep"}, named{"/z", api.File, 6, "last"})
	expectHas(t, f, "first", api.File, true)
	expectHas(t, f, "deep", api.Sym, true)
	expectHas(t, f, "last", api.File, true)
	expectHas(t, f, "first", api.Sym, false)
	expectHas(t, f, "deep", api.File, false)
	expectHas(t, f, "last", api.Dir, false)
	// One inode's Kind and another one's Data are no inode's.
	expectHas(t, treeOf(named{"/a", api.File, 2, "a"}, named{"/b", api.Sym, 3, "b"}), "a", api.Sym, false)
	// Names aren't Data.
	expectHas(t, f, "a", api.File, false)
	expectHas(t, f, "d", api.Dir, false)
	expectHas(t, f, "/", api.Dir, false)
}

func TestHasAsTheShape(t *testing.T) {
	eachTree(oneEach, func(f api.Fs) {
		shape := straight(f)
		for _, data := range []string{"", "x", "y"} {
			for _, kind := range []int{0, api.File, api.Dir, api.Sym, 4} {
				want := slices.ContainsFunc(shape, func(l api.Shape) bool { return l.Kind == kind && l.Data == data })
				expectHas(t, f, data, kind, want)
			}
		}
	})
}

// P16.3

func TestEachNumbering(t *testing.T) {
	f := treeOf(
		named{"/d", api.Dir, 2, ""}, named{"/d/f", api.File, 3, "x"}, named{"/d/g", api.File, 4, "x"}, named{"/d/s", api.Sym, 5, "x"}, named{"/e", api.Dir, 6, ""}, named{"/f", api.File, 3, "x"}, named{"/s", api.Sym, 7, "x"},
	)
	want, orders := straight(f), 0
	for _, numbers := range [][]int{{2, 3, 4, 5, 6, 7}, {2, 9, 1 << 10, 1 << 20, 1 << 30, 1<<40 - 1}} {
		eachOrder(numbers, func(l []int) {
			orders++
			g := renumbered(f, func(ino int) int {
				if ino == api.Root {
					return ino
				}
				return l[ino-2]
			})
			expectSame(t, fmt.Sprint("other numbers ", l), f, g, true)
			if got := Of(g); !slices.Equal(got, want) {
				t.Fatalf("Of of %s: %v, not %v", short(g), got, want)
			}
		})
	}
	if orders != 2*720 {
		t.Errorf("%d orders", orders)
	}
}

func TestEachTreeOfOtherNumbers(t *testing.T) {
	eachTree(oneEach, func(f api.Fs) {
		g := renumbered(f, backwards)
		if !Same(f, g) || !Same(g, f) {
			t.Fatalf("Same of %s and %s: false", short(f), short(g))
		}
	})
}

// P16.4

// roomy answers the file system in lists of its own, each with room behind it that isn't empty.
func roomy(f api.Fs) api.Fs {
	behind := api.Entry{Name: "zzz", Ino: 77}
	f = copied(f)
	for i, x := range f.Inodes {
		f.Inodes[i].Entries = append(x.Entries, behind, behind, behind)[:len(x.Entries)]
	}
	last := api.Inode{Ino: 77, Kind: api.File, Links: 8, Data: "behind"}
	f.Inodes = append(f.Inodes, last, last, last)[:len(f.Inodes)]
	return f
}

// wholly answers the file system with the room behind its lists laid open.
func wholly(f api.Fs) api.Fs {
	f.Inodes = slices.Clone(f.Inodes[:cap(f.Inodes)])
	for i, x := range f.Inodes {
		f.Inodes[i].Entries = x.Entries[:cap(x.Entries)]
	}
	return copied(f)
}

func TestHandedInStays(t *testing.T) {
	f, g := roomy(tree()), roomy(renumbered(tree(), backwards))
	beforeF, beforeG := wholly(f), wholly(g)
	Of(f)
	Same(f, g)
	Same(g, f)
	Same(f, f)
	for _, h := range otherTrees() {
		Same(f, h)
		Same(h, f)
	}
	for _, x := range f.Inodes {
		for _, kind := range append(noKinds(), api.File, api.Dir, api.Sym) {
			Has(f, x.Data, kind)
		}
	}
	if !reflect.DeepEqual(wholly(f), beforeF) || !reflect.DeepEqual(wholly(g), beforeG) {
		t.Errorf("handed in: %+v and %+v, not %+v and %+v", wholly(f), wholly(g), beforeF, beforeG)
	}
}

func TestRoomIsNotGoneThrough(t *testing.T) {
	f := roomy(tree())
	expect(t, "the tree with room behind its lists", f, treesShape()...)
	expectSame(t, "the tree with room behind its lists", f, tree(), true)
	expectHas(t, f, "behind", api.File, false)
	// What stands behind one list's end stands in the other's.
	g := roomy(rootAlone())
	g.Inodes[0].Entries = append(g.Inodes[0].Entries, api.Entry{Name: "zzz", Ino: 77})
	g.Inodes, g.Next = append(g.Inodes, api.Inode{Ino: 77, Kind: api.File, Links: 1, Data: "behind"}), 78
	expectSame(t, "room behind a list, and what stands in one", roomy(rootAlone()), g, false)
	expectHas(t, g, "behind", api.File, true)
}

// overwrite writes over all that the file system's lists hold.
func overwrite(f api.Fs) {
	for i, x := range f.Inodes {
		for j := range x.Entries {
			x.Entries[j] = api.Entry{Name: "over", Ino: 1}
		}
		f.Inodes[i] = api.Inode{Ino: 1, Kind: api.File, Data: "over"}
	}
}

func TestWhatWasAnsweredStays(t *testing.T) {
	f := roomy(tree())
	before := wholly(f)
	first, second := Of(f), Of(f)
	for i := range first[:cap(first)] {
		first[:cap(first)][i] = api.Shape{Path: "over", Kind: 9, Data: "over", First: 99}
	}
	if third := Of(f); !slices.Equal(second, treesShape()) || !slices.Equal(third, treesShape()) {
		t.Errorf("another answer written over: %v and %v", second, third)
	}
	if after := wholly(f); !reflect.DeepEqual(after, before) {
		t.Errorf("handed in, answers written over: %+v, not %+v", after, before)
	}
	overwrite(f)
	if !slices.Equal(second, treesShape()) {
		t.Errorf("what was handed in written over: %v", second)
	}
	if expect := tree(); !Same(expect, tree()) || Same(expect, f) {
		t.Error("what was written over counts for another file system")
	}
}

// shares tells whether two texts have memory in common.
func shares(a, b string) bool {
	if a == "" || b == "" {
		return false
	}
	x, y := uintptr(unsafe.Pointer(unsafe.StringData(a))), uintptr(unsafe.Pointer(unsafe.StringData(b)))
	return x < y+uintptr(len(b)) && y < x+uintptr(len(a))
}

func TestTextsAreNew(t *testing.T) {
	f := tree()
	for i, x := range f.Inodes {
		f.Inodes[i].Data = strings.Clone(x.Data)
		for j, e := range x.Entries {
			x.Entries[j].Name = strings.Clone(e.Name)
		}
	}
	var handed []string
	for _, x := range f.Inodes {
		handed = append(handed, x.Data)
		for _, e := range x.Entries {
			handed = append(handed, e.Name)
		}
	}
	first, second := Of(f), Of(f)
	for _, l := range second {
		handed = append(handed, l.Path, l.Data)
	}
	for _, l := range first {
		for _, text := range handed {
			if shares(l.Path, text) || shares(l.Data, text) {
				t.Errorf("the line %v shares memory with %q", l, text)
			}
		}
	}
}

// The rules that hold everywhere

func TestTheSameAgain(t *testing.T) {
	f, g := tree(), swapped()
	for range 50 {
		if !slices.Equal(Of(f), treesShape()) || !Same(f, f) || Same(f, g) || Has(f, "x", api.File) {
			t.Fatal("another answer than the one ahead")
		}
	}
}

func TestWhateverIsHandedInIsAnswered(t *testing.T) {
	// Of such file systems nothing is promised but that these calls end.
	for _, change := range []func(f *api.Fs){
		func(f *api.Fs) { *f = api.Fs{} },
		func(f *api.Fs) { f.Inodes = f.Inodes[1:] },
		func(f *api.Fs) { f.Inodes = f.Inodes[:3] },
		func(f *api.Fs) { slices.Reverse(f.Inodes) },
		func(f *api.Fs) { f.Inodes[0].Kind = api.File },
		func(f *api.Fs) { f.Inodes[0].Entries[1].Ino = 99 },
		func(f *api.Fs) { f.Inodes[0].Entries[1].Ino = math.MinInt },
		func(f *api.Fs) { f.Inodes[0].Entries[1].Ino = 1 },
		func(f *api.Fs) { f.Inodes[2].Entries[1].Ino = 3 },
	} {
		f := tree()
		change(&f)
		Same(f, f)
		Same(f, tree())
		Same(tree(), f)
		Has(f, "abc", api.File)
		Has(f, "", 0)
	}
}
