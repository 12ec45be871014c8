package walk

import (
	"cmp"
	"fmt"
	"iter"
	"math"
	"reflect"
	"slices"
	"strings"
	"testing"
	"unsafe"

	"drayman/api"
	"drayman/sound"
	"drayman/table"
)

// line is an entry of a tree: where it stands, and the inode that it names, whose Data are of a file or a link alone.
type line struct {
	path string
	kind int
	ino  int
	data string
}

// treeOf answers the file system of these entries, a directory's own ahead of those in it.
func treeOf(lines ...line) api.Fs {
	inodes := map[int]*api.Inode{1: {Ino: 1, Kind: api.Dir, Parent: 1}}
	dirs := map[string]*api.Inode{"": inodes[1]}
	next := 2
	for _, l := range lines {
		cut := strings.LastIndexByte(l.path, '/')
		dir := dirs[l.path[:cut]]
		dir.Entries = append(dir.Entries, api.Entry{Name: l.path[cut+1:], Ino: l.ino})
		if inodes[l.ino] == nil {
			inodes[l.ino] = &api.Inode{Ino: l.ino, Kind: l.kind, Data: l.data}
		}
		inodes[l.ino].Links++
		if l.kind == api.Dir {
			inodes[l.ino].Parent = dir.Ino
			dirs[l.path] = inodes[l.ino]
		}
		next = max(next, l.ino+1)
	}
	f := api.Fs{MaxInodes: api.MaxCount, MaxBytes: api.MaxCount, Next: next}
	for _, x := range inodes {
		slices.SortFunc(x.Entries, func(a, b api.Entry) int { return cmp.Compare(a.Name, b.Name) })
		f.Inodes = append(f.Inodes, *x)
	}
	slices.SortFunc(f.Inodes, func(x, y api.Inode) int { return cmp.Compare(x.Ino, y.Ino) })
	return f
}

// tree answers a file system of directories in one another, some of them empty, ahead of and behind files and links, some of which several entries name.
func tree() api.Fs {
	return treeOf(
		line{"/z", api.Dir, 6, ""},
		line{"/a", api.Dir, 9, ""},
		line{"/b", api.File, 4, "abc"},
		line{"/d", api.Dir, 3, ""},
		line{"/d-", api.File, 11, ""},
		line{"/d/e", api.Dir, 12, ""},
		line{"/d/-", api.Sym, 8, "d/e"},
		line{"/d/f", api.File, 7, "\x00\xff"},
		line{"/d/g", api.File, 7, "\x00\xff"},
		line{"/d/z", api.Dir, 5, ""},
		line{"/d/e/y", api.File, 4, "abc"},
		line{"/d/e/x", api.Dir, 2, ""},
		line{"/s", api.Sym, 8, "d/e"},
		line{"/z/s", api.Sym, 8, "d/e"},
	)
}

// treeSeen answers the tree's walk.
func treeSeen() []api.Seen {
	return []api.Seen{
		{Path: "/", Ino: 1},
		{Path: "/a", Ino: 9},
		{Path: "/b", Ino: 4},
		{Path: "/d", Ino: 3},
		{Path: "/d/-", Ino: 8},
		{Path: "/d/e", Ino: 12},
		{Path: "/d/e/x", Ino: 2},
		{Path: "/d/e/y", Ino: 4},
		{Path: "/d/f", Ino: 7},
		{Path: "/d/g", Ino: 7},
		{Path: "/d/z", Ino: 5},
		{Path: "/d-", Ino: 11},
		{Path: "/s", Ino: 8},
		{Path: "/z", Ino: 6},
		{Path: "/z/s", Ino: 8},
	}
}

// rootAlone answers a file system that is new.
func rootAlone(t *testing.T) api.Fs {
	t.Helper()
	f, e := table.New(10, 100)
	if e != api.OK {
		t.Fatalf("table.New: %d", e)
	}
	return f
}

// rowOf answers directories each of which lies in the one ahead, named n, as many as are asked for.
func rowOf(many int) api.Fs {
	f := api.Fs{MaxInodes: many, Next: many + 1}
	for ino := 1; ino <= many; ino++ {
		x := api.Inode{Ino: ino, Kind: api.Dir, Links: 1, Parent: max(ino-1, 1)}
		if ino < many {
			x.Entries = []api.Entry{{Name: "n", Ino: ino + 1}}
		}
		f.Inodes = append(f.Inodes, x)
	}
	f.Inodes[0].Links = 0
	return f
}

// inodeOf answers the number's inode, or one that is nothing.
func inodeOf(f api.Fs, ino int) api.Inode {
	for _, x := range f.Inodes {
		if x.Ino == ino {
			return x
		}
	}
	return api.Inode{}
}

// seenFrom answers, of the chapter's words alone, the walk from the number's inode by the path.
func seenFrom(f api.Fs, ino int, p string) []api.Seen {
	x := inodeOf(f, ino)
	if x.Ino == 0 {
		return nil
	}
	all := []api.Seen{{Path: p, Ino: ino}}
	for _, e := range x.Entries {
		all = append(all, seenFrom(f, e.Ino, strings.TrimSuffix(p, "/")+"/"+e.Name)...)
	}
	return all
}

// pathsTo answers the paths of the walk that come to the number.
func pathsTo(all []api.Seen, ino int) []string {
	var paths []string
	for _, s := range all {
		if s.Ino == ino {
			paths = append(paths, s.Path)
		}
	}
	return paths
}

// names are those of generated trees' entries: neither they nor their paths rise.
var names = []string{"m", "a", "m-", "Z"}

// grow hands each tree of the lines, and of more of them, to do; number answers the number of the inode that is made so manieth.
func grow(lines []line, made int, number func(int) int, do func(api.Fs)) {
	do(treeOf(lines...))
	if len(lines) == len(names) {
		return
	}
	dirs := []string{""}
	for _, l := range lines {
		if l.kind == api.Dir {
			dirs = append(dirs, l.path)
		}
	}
	for _, dir := range dirs {
		p := dir + "/" + names[len(lines)]
		for _, kind := range []int{api.File, api.Dir, api.Sym} {
			l := line{path: p, kind: kind, ino: number(made)}
			if kind != api.Dir {
				l.data = "data"
			}
			grow(append(slices.Clone(lines), l), made+1, number, do)
		}
		for _, l := range lines {
			if l.kind != api.Dir {
				grow(append(slices.Clone(lines), line{path: p, kind: l.kind, ino: l.ino}), made, number, do)
			}
		}
	}
}

// eachTree hands each tree of at most four entries to do, with numbers that rise as inodes are made, and with such that fall.
func eachTree(do func(f api.Fs)) {
	grow(nil, 0, func(made int) int { return 2 + made }, do)
	grow(nil, 0, func(made int) int { return 20 - made }, do)
}

// copied answers the file system in lists of its own, those that are empty as nil.
func copied(f api.Fs) api.Fs {
	var inodes []api.Inode
	for _, x := range f.Inodes {
		x.Entries = append([]api.Entry(nil), x.Entries...)
		inodes = append(inodes, x)
	}
	f.Inodes = inodes
	return f
}

// alike tells whether two file systems read alike.
func alike(a, b api.Fs) bool {
	return reflect.DeepEqual(copied(a), copied(b))
}

// gone answers the paths and numbers that the walk hands out, and tells whether each inode is as it stands in the file system.
func gone(t *testing.T, f api.Fs, all iter.Seq2[string, api.Inode]) []api.Seen {
	t.Helper()
	var seen []api.Seen
	for p, x := range all {
		if want := inodeOf(f, x.Ino); !alike(api.Fs{Inodes: []api.Inode{x}}, api.Fs{Inodes: []api.Inode{want}}) {
			t.Errorf("All, at %q: %+v, not %+v", p, x, want)
		}
		seen = append(seen, api.Seen{Path: p, Ino: x.Ino})
	}
	return seen
}

// expect asks List and All for the walk from Root.
func expect(t *testing.T, what string, f api.Fs, want []api.Seen) {
	t.Helper()
	if n := sound.Check(f); n != 0 {
		t.Fatalf("%s isn't sound: rule %d", what, n)
	}
	if got := List(f); !slices.Equal(got, want) {
		t.Errorf("List of %s: %v, not %v", what, got, want)
	}
	if got := gone(t, f, All(f)); !slices.Equal(got, want) {
		t.Errorf("All of %s: %v, not %v", what, got, want)
	}
}

// expectBelow asks Below for the walk from the inode.
func expectBelow(t *testing.T, f api.Fs, ino int, p string, want []api.Seen) {
	t.Helper()
	if got := Below(f, ino, p); !slices.Equal(got, want) {
		t.Errorf("Below from %d by %q: %v, not %v", ino, p, got, want)
	}
}

// expectPaths asks Paths for the paths of the inode.
func expectPaths(t *testing.T, f api.Fs, ino int, want ...string) {
	t.Helper()
	if got := Paths(f, ino); !slices.Equal(got, want) {
		t.Errorf("Paths of %d: %q, not %q", ino, got, want)
	}
}

// expectPathOf asks PathOf for the directory's path, which is empty, if there is no such directory.
func expectPathOf(t *testing.T, f api.Fs, dir int, want string) {
	t.Helper()
	if got, ok := PathOf(f, dir); got != want || ok != (want != "") {
		t.Errorf("PathOf of %d: %q, %v, not %q", dir, got, ok, want)
	}
}

// P8.1: All and List

func TestRootAlone(t *testing.T) {
	want := []api.Seen{{Path: "/", Ino: 1}}
	expect(t, "a new file system", rootAlone(t), want)
	f := rootAlone(t)
	f.Inodes[0].Entries = []api.Entry{}
	expect(t, "Root with empty Entries", f, want)
}

func TestChaptersExample(t *testing.T) {
	f := treeOf(line{"/d", api.Dir, 2, ""}, line{"/d/f", api.File, 3, "abc"})
	expect(t, "a directory with a file", f, []api.Seen{{Path: "/", Ino: 1}, {Path: "/d", Ino: 2}, {Path: "/d/f", Ino: 3}})
}

func TestTree(t *testing.T) {
	expect(t, "the tree", tree(), treeSeen())
}

func TestEmptyDirectories(t *testing.T) {
	expect(t, "empty directories ahead of, between and behind others", treeOf(
		line{"/a", api.Dir, 8, ""},
		line{"/b", api.Dir, 7, ""},
		line{"/c", api.File, 6, ""},
		line{"/d", api.Dir, 5, ""},
		line{"/e", api.Sym, 4, "a"},
		line{"/f", api.Dir, 3, ""},
		line{"/g", api.Dir, 2, ""},
	), []api.Seen{{Path: "/", Ino: 1}, {Path: "/a", Ino: 8}, {Path: "/b", Ino: 7}, {Path: "/c", Ino: 6}, {Path: "/d", Ino: 5}, {Path: "/e", Ino: 4}, {Path: "/f", Ino: 3}, {Path: "/g", Ino: 2}})
}

func TestBackFromTheDeepest(t *testing.T) {
	expect(t, "files behind each of directories in one another", treeOf(
		line{"/a", api.Dir, 2, ""},
		line{"/a/a", api.Dir, 3, ""},
		line{"/a/a/a", api.Dir, 4, ""},
		line{"/a/a/b", api.File, 5, ""},
		line{"/a/b", api.File, 6, ""},
		line{"/b", api.File, 7, ""},
	), []api.Seen{{Path: "/", Ino: 1}, {Path: "/a", Ino: 2}, {Path: "/a/a", Ino: 3}, {Path: "/a/a/a", Ino: 4}, {Path: "/a/a/b", Ino: 5}, {Path: "/a/b", Ino: 6}, {Path: "/b", Ino: 7}})
}

func TestEntriesOrderNotPaths(t *testing.T) {
	// If the paths themselves rose, /d- would stand ahead of /d/f.
	expect(t, "names with bytes below a slash's", treeOf(
		line{"/d", api.Dir, 2, ""},
		line{"/d/f", api.File, 3, ""},
		line{"/d\x01", api.Dir, 4, ""},
		line{"/d\x01/f", api.File, 3, ""},
		line{"/d-", api.File, 3, ""},
		line{"/\xff", api.File, 3, ""},
		line{"/D", api.File, 3, ""},
	), []api.Seen{{Path: "/", Ino: 1}, {Path: "/D", Ino: 3}, {Path: "/d", Ino: 2}, {Path: "/d/f", Ino: 3}, {Path: "/d\x01", Ino: 4}, {Path: "/d\x01/f", Ino: 3}, {Path: "/d-", Ino: 3}, {Path: "/\xff", Ino: 3}})
}

func TestLinksAreNotFollowed(t *testing.T) {
	expect(t, "links to directories", treeOf(
		line{"/d", api.Dir, 2, ""},
		line{"/d/l", api.Sym, 3, "/"},
		line{"/s", api.Sym, 4, "d/"},
		line{"/t", api.Sym, 5, "none"},
	), []api.Seen{{Path: "/", Ino: 1}, {Path: "/d", Ino: 2}, {Path: "/d/l", Ino: 3}, {Path: "/s", Ino: 4}, {Path: "/t", Ino: 5}})
}

func TestDeep(t *testing.T) {
	const many = 1 << 11
	var want []api.Seen
	for i := range many {
		want = append(want, api.Seen{Path: max("/", strings.Repeat("/n", i)), Ino: i + 1})
	}
	expect(t, "directories as deep as there are inodes", rowOf(many), want)
}

func TestWide(t *testing.T) {
	const many = 1 << 14
	f := rootAlone(t)
	f.MaxInodes, f.Next = many+1, many+2
	want := []api.Seen{{Path: "/", Ino: 1}}
	for i := range many {
		name, ino := fmt.Sprintf("%08d", i), i+2
		f.Inodes[0].Entries = append(f.Inodes[0].Entries, api.Entry{Name: name, Ino: ino})
		f.Inodes = append(f.Inodes, api.Inode{Ino: ino, Kind: api.Dir, Links: 1, Parent: 1})
		want = append(want, api.Seen{Path: "/" + name, Ino: ino})
	}
	expect(t, "many directories in one", f, want)
}

func TestEachTree(t *testing.T) {
	trees := 0
	eachTree(func(f api.Fs) {
		trees++
		want := seenFrom(f, 1, "/")
		expect(t, fmt.Sprintf("%+v", f), f, want)
		for ino := range 23 {
			for _, p := range []string{"/", "/q", "/q/m/a"} {
				expectBelow(t, f, ino, p, seenFrom(f, ino, p))
			}
			paths := pathsTo(want, ino)
			expectPaths(t, f, ino, paths...)
			if inodeOf(f, ino).Kind == api.Dir {
				expectPathOf(t, f, ino, paths[0])
			} else {
				expectPathOf(t, f, ino, "")
			}
		}
	})
	if trees < 1000 {
		t.Errorf("%d trees", trees)
	}
}

// P8.1: All, left and gone again

func TestLeftAndGoneAgain(t *testing.T) {
	f, want := tree(), treeSeen()
	all := All(f)
	for left := range want {
		var got []api.Seen
		for p, x := range all {
			got = append(got, api.Seen{Path: p, Ino: x.Ino})
			if len(got) == left+1 {
				break
			}
		}
		if !slices.Equal(got, want[:left+1]) {
			t.Errorf("All, left behind place %d: %v, not %v", left, got, want[:left+1])
		}
		if got := gone(t, f, all); !slices.Equal(got, want) {
			t.Errorf("All, gone again: %v, not %v", got, want)
		}
	}
}

func TestLeftIsNotGoneOnWith(t *testing.T) {
	eachTree(func(f api.Fs) {
		all := All(f)
		for left := range len(List(f)) {
			steps := 0
			all(func(string, api.Inode) bool {
				steps++
				return steps <= left
			})
			if steps != left+1 {
				t.Fatalf("All of %+v, left behind place %d: %d steps", f, left, steps)
			}
		}
	})
}

func TestGoneWithinItself(t *testing.T) {
	f, want := tree(), treeSeen()
	all := All(f)
	place := 0
	for p, x := range all {
		if want[place] != (api.Seen{Path: p, Ino: x.Ino}) {
			t.Fatalf("All, gone within itself, at %d: %q, %d", place, p, x.Ino)
		}
		if got := gone(t, f, all); !slices.Equal(got, want) {
			t.Fatalf("All, within itself at %q: %v, not %v", p, got, want)
		}
		place++
	}
	if place != len(want) {
		t.Errorf("All, gone within itself: %d steps", place)
	}
}

func TestLeftByAPanic(t *testing.T) {
	f, want := tree(), treeSeen()
	all := All(f)
	func() {
		defer func() { recover() }()
		for p := range all {
			if p == "/d/e" {
				panic("left")
			}
		}
	}()
	if got := gone(t, f, all); !slices.Equal(got, want) {
		t.Errorf("All, gone again behind a panic: %v, not %v", got, want)
	}
}

func TestDeepIsLeftSoon(t *testing.T) {
	steps := 0
	for p, x := range All(rowOf(1 << 16)) {
		if want := max("/", strings.Repeat("/n", steps)); p != want || x.Ino != steps+1 {
			t.Errorf("place %d: %q, %d", steps, p, x.Ino)
		}
		if steps++; steps == 100 {
			break
		}
	}
	if steps != 100 {
		t.Errorf("%d steps", steps)
	}
}

// P8.1: Below

func TestBelowRoot(t *testing.T) {
	expectBelow(t, tree(), 1, "/", treeSeen())
	expectBelow(t, rootAlone(t), 1, "/", []api.Seen{{Path: "/", Ino: 1}})
	expectBelow(t, rootAlone(t), 1, "/a/b", []api.Seen{{Path: "/a/b", Ino: 1}})
}

func TestBelowDirectory(t *testing.T) {
	f := tree()
	long := strings.Repeat("/"+strings.Repeat("p", 255), 20)
	for _, p := range []string{"/d", "/q", "/z/s", "/q/d/e", "/...", long} {
		expectBelow(t, f, 3, p, []api.Seen{
			{Path: p, Ino: 3},
			{Path: p + "/-", Ino: 8},
			{Path: p + "/e", Ino: 12},
			{Path: p + "/e/x", Ino: 2},
			{Path: p + "/e/y", Ino: 4},
			{Path: p + "/f", Ino: 7},
			{Path: p + "/g", Ino: 7},
			{Path: p + "/z", Ino: 5},
		})
		expectBelow(t, f, 5, p, []api.Seen{{Path: p, Ino: 5}})
	}
	expectBelow(t, f, 12, "/", []api.Seen{{Path: "/", Ino: 12}, {Path: "/x", Ino: 2}, {Path: "/y", Ino: 4}})
	expectBelow(t, f, 9, "/", []api.Seen{{Path: "/", Ino: 9}})
}

func TestBelowNoDirectory(t *testing.T) {
	for _, ino := range []int{4, 7, 8, 11} {
		for _, p := range []string{"/", "/b", "/q/r/s"} {
			expectBelow(t, tree(), ino, p, []api.Seen{{Path: p, Ino: ino}})
		}
	}
}

// none are numbers that no inode has.
var none = []int{math.MinInt, -1 << 40, -1, 0, 10, 13, 1 << 40, math.MaxInt - 1, math.MaxInt}

func TestBelowNoInode(t *testing.T) {
	for _, ino := range none {
		expectBelow(t, tree(), ino, "/", nil)
		expectBelow(t, tree(), ino, "/d", nil)
		expectBelow(t, rootAlone(t), ino, "/", nil)
	}
}

func TestBelowDeep(t *testing.T) {
	const many = 1 << 16
	f := rowOf(many)
	expectBelow(t, f, many-2, "/p", []api.Seen{{Path: "/p", Ino: many - 2}, {Path: "/p/n", Ino: many - 1}, {Path: "/p/n/n", Ino: many}})
}

// P8.2

func TestPaths(t *testing.T) {
	f := tree()
	expectPaths(t, f, 1, "/")
	expectPaths(t, f, 2, "/d/e/x")
	expectPaths(t, f, 3, "/d")
	expectPaths(t, f, 4, "/b", "/d/e/y")
	expectPaths(t, f, 7, "/d/f", "/d/g")
	expectPaths(t, f, 8, "/d/-", "/s", "/z/s")
	expectPaths(t, f, 9, "/a")
	expectPaths(t, f, 11, "/d-")
	expectPaths(t, rootAlone(t), 1, "/")
}

func TestPathsInTheWalksOrder(t *testing.T) {
	f := treeOf(
		line{"/d", api.Dir, 2, ""},
		line{"/d/f", api.File, 3, ""},
		line{"/d-", api.File, 3, ""},
		line{"/a", api.File, 3, ""},
	)
	expectPaths(t, f, 3, "/a", "/d/f", "/d-")
}

func TestPathsOfNoInode(t *testing.T) {
	for _, ino := range none {
		expectPaths(t, tree(), ino)
		expectPaths(t, rootAlone(t), ino)
	}
}

func TestPathOf(t *testing.T) {
	f := tree()
	for dir, want := range map[int]string{1: "/", 2: "/d/e/x", 3: "/d", 5: "/d/z", 6: "/z", 9: "/a", 12: "/d/e"} {
		expectPathOf(t, f, dir, want)
	}
	expectPathOf(t, rootAlone(t), 1, "/")
}

func TestPathOfNoDirectory(t *testing.T) {
	for _, ino := range slices.Concat(none, []int{4, 7, 8, 11}) {
		expectPathOf(t, tree(), ino, "")
	}
	for _, ino := range slices.Concat(none, []int{2}) {
		expectPathOf(t, rootAlone(t), ino, "")
	}
}

func TestPathsDeep(t *testing.T) {
	const many = 1 << 16
	f := rowOf(many)
	for _, ino := range []int{1, 2, 3, many / 2, many - 1, many} {
		want := max("/", strings.Repeat("/n", ino-1))
		expectPathOf(t, f, ino, want)
		expectPaths(t, f, ino, want)
	}
}

// P8.3

// expectOnce tells whether the walk comes to each entry once, and to a directory by one path, just ahead of what lies in it.
func expectOnce(t *testing.T, f api.Fs, all []api.Seen) {
	t.Helper()
	place := map[string]int{}
	for i, s := range all {
		if _, twice := place[s.Path]; twice {
			t.Errorf("the walk comes to %q twice: %v", s.Path, all)
		}
		place[s.Path] = i
	}
	entries := 0
	for _, x := range f.Inodes {
		entries += len(x.Entries)
		if x.Kind != api.Dir {
			continue
		}
		paths := pathsTo(all, x.Ino)
		if len(paths) != 1 {
			t.Errorf("the walk comes to directory %d by %q", x.Ino, paths)
			continue
		}
		for _, e := range x.Entries {
			p := strings.TrimSuffix(paths[0], "/") + "/" + e.Name
			if at, there := place[p]; !there || at <= place[paths[0]] || all[at].Ino != e.Ino {
				t.Errorf("the walk comes to %q at %d, %v, and to its directory at %d", p, at, there, place[paths[0]])
			}
		}
	}
	if len(all) != entries+1 {
		t.Errorf("the walk has %d steps, for %d entries and Root", len(all), entries)
	}
}

func TestEachEntryOnce(t *testing.T) {
	expectOnce(t, tree(), List(tree()))
	expectOnce(t, rootAlone(t), List(rootAlone(t)))
	expectOnce(t, rowOf(100), List(rowOf(100)))
	eachTree(func(f api.Fs) {
		expectOnce(t, f, List(f))
		expectOnce(t, f, gone(t, f, All(f)))
		for _, x := range f.Inodes {
			if p, ok := PathOf(f, x.Ino); ok && !slices.Equal(Paths(f, x.Ino), []string{p}) {
				t.Errorf("PathOf of %d: %q, and Paths: %q", x.Ino, p, Paths(f, x.Ino))
			}
		}
	})
}

// P8.4

// roomy answers the file system in lists of its own, each with room behind it that isn't empty.
func roomy(f api.Fs) api.Fs {
	behind := api.Entry{Name: "behind", Ino: 77}
	f = copied(f)
	for i, x := range f.Inodes {
		f.Inodes[i].Entries = append(x.Entries, behind, behind, behind)[:len(x.Entries)]
	}
	last := api.Inode{Ino: 88, Kind: api.File, Links: 8, Data: "behind"}
	f.Inodes = append(f.Inodes, last, last, last)[:len(f.Inodes)]
	return f
}

// wholly answers the file system with the room behind its lists laid open.
func wholly(f api.Fs) api.Fs {
	f.Inodes = slices.Clone(f.Inodes[:cap(f.Inodes)])
	for i, x := range f.Inodes {
		f.Inodes[i].Entries = x.Entries[:cap(x.Entries)]
	}
	return copied(f)
}

func TestHandedInStays(t *testing.T) {
	f := roomy(tree())
	before := wholly(f)
	for _, ino := range []int{0, 1, 2, 3, 4, 8, 12, 99} {
		for _, p := range []string{"/", "/q/r"} {
			Below(f, ino, p)
		}
		Paths(f, ino)
		PathOf(f, ino)
	}
	List(f)
	for range All(f) {
	}
	for range All(f) {
		break
	}
	if after := wholly(f); !reflect.DeepEqual(after, before) {
		t.Errorf("handed in: %+v, not %+v", after, before)
	}
}

func TestRoomIsNotGoneThrough(t *testing.T) {
	expect(t, "a tree with room behind its lists", roomy(tree()), treeSeen())
	expectPaths(t, roomy(tree()), 77)
	expectBelow(t, roomy(tree()), 88, "/", nil)
}

func TestAllKeepsNothing(t *testing.T) {
	f, want := tree(), treeSeen()
	all := All(f)
	overwrite(f)
	if got := gone(t, tree(), all); !slices.Equal(got, want) {
		t.Errorf("All, gone when what was handed in reads otherwise: %v, not %v", got, want)
	}
	f = tree()
	all = All(f)
	place := 0
	for p, x := range all {
		overwrite(f)
		if want[place] != (api.Seen{Path: p, Ino: x.Ino}) {
			t.Fatalf("All, when what was handed in is written over, at %d: %q, %d", place, p, x.Ino)
		}
		place++
	}
	if place != len(want) {
		t.Errorf("All, when what was handed in is written over: %d steps", place)
	}
}

// overwrite writes over all that the file system's lists hold.
func overwrite(f api.Fs) {
	for i, x := range f.Inodes {
		for j := range x.Entries {
			x.Entries[j] = api.Entry{Name: "over", Ino: 1}
		}
		f.Inodes[i] = api.Inode{Ino: 1, Kind: api.File}
	}
}

func TestListsAreNew(t *testing.T) {
	f := roomy(tree())
	before := wholly(f)
	for what, list := range map[string]func() []api.Seen{
		"List":                  func() []api.Seen { return List(f) },
		"Below of Root":         func() []api.Seen { return Below(f, 1, "/q") },
		"Below of a directory":  func() []api.Seen { return Below(f, 3, "/d") },
		"Below of no directory": func() []api.Seen { return Below(f, 4, "/d") },
	} {
		first, second := list(), list()
		want := slices.Clone(second)
		for i := range first[:cap(first)] {
			first[:cap(first)][i] = api.Seen{Path: "over", Ino: 99}
		}
		if third := list(); !slices.Equal(second, want) || !slices.Equal(third, want) {
			t.Errorf("%s, another answer written over: %v and %v, not %v", what, second, third, want)
		}
	}
	first, second := Paths(f, 8), Paths(f, 8)
	for i := range first[:cap(first)] {
		first[:cap(first)][i] = "over"
	}
	want := []string{"/d/-", "/s", "/z/s"}
	if !slices.Equal(second, want) {
		t.Errorf("Paths, another answer written over: %q, not %q", second, want)
	}
	expectPaths(t, f, 8, want...)
	if after := wholly(f); !reflect.DeepEqual(after, before) {
		t.Errorf("handed in, answers written over: %+v, not %+v", after, before)
	}
}

func TestInodesOfAllAreNew(t *testing.T) {
	f, want := roomy(tree()), treeSeen()
	before := wholly(f)
	all := All(f)
	for range 2 {
		place := 0
		for p, x := range all {
			if want[place] != (api.Seen{Path: p, Ino: x.Ino}) {
				t.Fatalf("All, its inodes written over, at %d: %q, %d", place, p, x.Ino)
			}
			entries := x.Entries[:cap(x.Entries)]
			for i := range entries {
				entries[i] = api.Entry{Name: "over", Ino: 99}
			}
			place++
		}
		if place != len(want) {
			t.Errorf("All, its inodes written over: %d steps", place)
		}
	}
	if got := gone(t, f, all); !slices.Equal(got, want) {
		t.Errorf("All, gone again when its inodes were written over: %v, not %v", got, want)
	}
	if after := wholly(f); !reflect.DeepEqual(after, before) {
		t.Errorf("handed in, All's inodes written over: %+v, not %+v", after, before)
	}
}

// shares tells whether two texts have memory in common.
func shares(a, b string) bool {
	if a == "" || b == "" {
		return false
	}
	x, y := uintptr(unsafe.Pointer(unsafe.StringData(a))), uintptr(unsafe.Pointer(unsafe.StringData(b)))
	return x < y+uintptr(len(b)) && y < x+uintptr(len(a))
}

// textsOf answers the inodes' texts.
func textsOf(l ...api.Inode) []string {
	var texts []string
	for _, x := range l {
		texts = append(texts, x.Data)
		for _, e := range x.Entries {
			texts = append(texts, e.Name)
		}
	}
	return texts
}

// answered answers all texts of one answer of each call.
func answered(f api.Fs, all iter.Seq2[string, api.Inode], p string) []string {
	var texts []string
	for at, x := range all {
		texts = append(texts, at)
		texts = append(texts, textsOf(x)...)
	}
	for _, s := range slices.Concat(List(f), Below(f, 3, p), Below(f, 4, p), Below(f, 1, "/")) {
		texts = append(texts, s.Path)
	}
	for _, x := range f.Inodes {
		texts = append(texts, Paths(f, x.Ino)...)
		at, _ := PathOf(f, x.Ino)
		texts = append(texts, at)
	}
	return texts
}

func TestTextsAreNew(t *testing.T) {
	f, p := tree(), "/q/r"
	all := All(f)
	texts := slices.Concat(answered(f, all, p), answered(f, all, p))
	handed := append(textsOf(f.Inodes...), p)
	for i, a := range texts {
		for _, b := range slices.Concat(handed, texts[:i]) {
			if shares(a, b) {
				t.Errorf("%q, which was answered, shares memory with %q", a, b)
			}
		}
	}
}
