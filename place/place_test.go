package place

import (
	"cmp"
	"fmt"
	"math"
	"reflect"
	"slices"
	"strings"
	"testing"
	"unsafe"

	"drayman/api"
	"drayman/sound"
	"drayman/table"
	"drayman/walk"
)

// line is an entry of a tree: where it stands, and the inode that it names, whose Data are of a file or a link alone.
type line struct {
	path string
	kind int
	ino  int
	data string
}

// treeOf answers the file system of these entries, a directory's own ahead of those in it.
func treeOf(lines ...line) api.Fs {
	inodes := map[int]*api.Inode{1: {Ino: 1, Kind: api.Dir, Parent: 1}}
	dirs := map[string]*api.Inode{"": inodes[1]}
	next := 2
	for _, l := range lines {
		cut := strings.LastIndexByte(l.path, '/')
		dir := dirs[l.path[:cut]]
		dir.Entries = append(dir.Entries, api.Entry{Name: l.path[cut+1:], Ino: l.ino})
		if inodes[l.ino] == nil {
			inodes[l.ino] = &api.Inode{Ino: l.ino, Kind: l.kind, Data: l.data}
		}
		inodes[l.ino].Links++
		if l.kind == api.Dir {
			inodes[l.ino].Parent = dir.Ino
			dirs[l.path] = inodes[l.ino]
		}
		next = max(next, l.ino+1)
	}
	f := api.Fs{MaxInodes: api.MaxCount, MaxBytes: api.MaxCount, Next: next}
	for _, x := range inodes {
		slices.SortFunc(x.Entries, func(a, b api.Entry) int { return cmp.Compare(a.Name, b.Name) })
		f.Inodes = append(f.Inodes, *x)
	}
	slices.SortFunc(f.Inodes, func(x, y api.Inode) int { return cmp.Compare(x.Ino, y.Ino) })
	return f
}

// none is a number that no inode of the tree has.
const none = 99

// tree answers a file system of directories in one another, with names that stand in several of them, files of several names, and links to directories, to Root and to nothing.
func tree() api.Fs {
	return treeOf(
		line{"/a", api.Dir, 9, ""},
		line{"/b", api.File, 4, "abc"},
		line{"/d", api.Dir, 3, ""},
		line{"/d/e", api.Dir, 12, ""},
		line{"/d/e/f", api.File, 7, "\x00\xff"},
		line{"/d/e/x", api.Dir, 2, ""},
		line{"/d/f", api.File, 7, "\x00\xff"},
		line{"/d/s", api.Sym, 8, "e"},
		line{"/r", api.Sym, 11, "/"},
		line{"/s", api.Sym, 10, "d/"},
		line{"/u", api.Sym, 13, "none"},
		line{"/z", api.Dir, 6, ""},
		line{"/z/d", api.Dir, 5, ""},
		line{"/z/d/f", api.File, 4, "abc"},
	)
}

// treeSpots answers where the paths to the tree's entries lead.
func treeSpots() map[string]api.Spotted {
	return map[string]api.Spotted{
		"/":      {Ino: 1},
		"/a":     {Dir: 1, Name: "a", Ino: 9},
		"/b":     {Dir: 1, Name: "b", Ino: 4},
		"/d":     {Dir: 1, Name: "d", Ino: 3},
		"/d/e":   {Dir: 3, Name: "e", Ino: 12},
		"/d/e/f": {Dir: 12, Name: "f", Ino: 7},
		"/d/e/x": {Dir: 12, Name: "x", Ino: 2},
		"/d/f":   {Dir: 3, Name: "f", Ino: 7},
		"/d/s":   {Dir: 3, Name: "s", Ino: 8},
		"/r":     {Dir: 1, Name: "r", Ino: 11},
		"/s":     {Dir: 1, Name: "s", Ino: 10},
		"/u":     {Dir: 1, Name: "u", Ino: 13},
		"/z":     {Dir: 1, Name: "z", Ino: 6},
		"/z/d":   {Dir: 6, Name: "d", Ino: 5},
		"/z/d/f": {Dir: 5, Name: "f", Ino: 4},
	}
}

// freeSpots answers where paths lead in the tree, whose last names aren't there.
func freeSpots() map[string]api.Spotted {
	return map[string]api.Spotted{
		"/c":       {Dir: 1, Name: "c"},
		"/A":       {Dir: 1, Name: "A"},
		"/a ":      {Dir: 1, Name: "a "},
		"/aa":      {Dir: 1, Name: "aa"},
		"/f":       {Dir: 1, Name: "f"},
		"/zz":      {Dir: 1, Name: "zz"},
		"/...":     {Dir: 1, Name: "..."},
		"/\xff":    {Dir: 1, Name: "\xff"},
		"/\x01":    {Dir: 1, Name: "\x01"},
		"/a/a":     {Dir: 9, Name: "a"},
		"/d/a":     {Dir: 3, Name: "a"},
		"/d/d":     {Dir: 3, Name: "d"},
		"/d/e/..x": {Dir: 12, Name: "..x"},
		"/d/e/e":   {Dir: 12, Name: "e"},
		"/d/e/x/y": {Dir: 2, Name: "y"},
		"/z/d/e":   {Dir: 5, Name: "e"},
		"/z/f":     {Dir: 6, Name: "f"},
	}
}

// rootAlone answers a file system that is new.
func rootAlone(t *testing.T) api.Fs {
	t.Helper()
	f, e := table.New(10, 100)
	if e != api.OK {
		t.Fatalf("table.New: %d", e)
	}
	return f
}

// rowOf answers directories each of which lies in the one ahead, as many as are asked for, by that name.
func rowOf(many int, name string) api.Fs {
	f := api.Fs{MaxInodes: many, Next: many + 1}
	for ino := 1; ino <= many; ino++ {
		x := api.Inode{Ino: ino, Kind: api.Dir, Links: 1, Parent: max(ino-1, 1)}
		if ino < many {
			x.Entries = []api.Entry{{Name: name, Ino: ino + 1}}
		}
		f.Inodes = append(f.Inodes, x)
	}
	f.Inodes[0].Links = 0
	return f
}

// inodeOf answers the number's inode, or one that is nothing.
func inodeOf(f api.Fs, ino int) api.Inode {
	for _, x := range f.Inodes {
		if x.Ino == ino {
			return x
		}
	}
	return api.Inode{}
}

// led answers, of the chapter's words alone, where these names lead from the directory of that number.
func led(f api.Fs, dir int, names []string) (api.Spotted, api.Errno) {
	x := inodeOf(f, dir)
	if x.Kind != api.Dir {
		return api.Spotted{}, api.ErrNotDir
	}
	at := slices.IndexFunc(x.Entries, func(e api.Entry) bool { return e.Name == names[0] })
	switch {
	case len(names) > 1 && at < 0:
		return api.Spotted{}, api.ErrNone
	case len(names) > 1:
		return led(f, x.Entries[at].Ino, names[1:])
	case at < 0:
		return api.Spotted{Dir: dir, Name: names[0]}, api.OK
	}
	return api.Spotted{Dir: dir, Name: names[0], Ino: x.Entries[at].Ino}, api.OK
}

// ledBy answers, of the chapter's words alone, where the plain path leads.
func ledBy(f api.Fs, p string) (api.Spotted, api.Errno) {
	if p == "/" {
		return api.Spotted{Ino: 1}, api.OK
	}
	return led(f, 1, strings.Split(p[1:], "/"))
}

// without answers, of the chapter's words alone, the file system whose directory of that number has no entry of that name.
func without(f api.Fs, dir int, name string) api.Fs {
	f = copied(f)
	for i, x := range f.Inodes {
		if x.Ino == dir {
			f.Inodes[i].Entries = slices.DeleteFunc(x.Entries, func(e api.Entry) bool { return e.Name == name })
		}
	}
	return f
}

// with answers, of the chapter's words alone, the file system whose directory of that number has an entry of that name and number.
func with(f api.Fs, dir int, name string, ino int) api.Fs {
	f = without(f, dir, name)
	for i, x := range f.Inodes {
		if x.Ino == dir {
			l := append(x.Entries, api.Entry{Name: name, Ino: ino})
			slices.SortFunc(l, func(a, b api.Entry) int { return cmp.Compare(a.Name, b.Name) })
			f.Inodes[i].Entries = l
		}
	}
	return f
}

// names are those of generated trees' entries: neither they nor their paths rise.
var names = []string{"m", "a", "m-"}

// grow hands each tree of the lines, and of more of them, to do; number answers the number of the inode that is made so manieth.
func grow(lines []line, made int, number func(int) int, do func(api.Fs)) {
	do(treeOf(lines...))
	if len(lines) == len(names) {
		return
	}
	dirs := []string{""}
	for _, l := range lines {
		if l.kind == api.Dir {
			dirs = append(dirs, l.path)
		}
	}
	for _, dir := range dirs {
		p := dir + "/" + names[len(lines)]
		for _, kind := range []int{api.File, api.Dir, api.Sym} {
			l := line{path: p, kind: kind, ino: number(made)}
			if kind != api.Dir {
				l.data = "m"
			}
			grow(append(slices.Clone(lines), l), made+1, number, do)
		}
		for _, l := range lines {
			if l.kind != api.Dir {
				grow(append(slices.Clone(lines), line{path: p, kind: l.kind, ino: l.ino}), made, number, do)
			}
		}
	}
}

// eachTree hands each tree of at most three entries to do, with numbers that rise as inodes are made, and with such that fall.
func eachTree(do func(f api.Fs)) {
	grow(nil, 0, func(made int) int { return 2 + made }, do)
	grow(nil, 0, func(made int) int { return 20 - made }, do)
}

// plainPaths answers all plain paths of at most so many names: those of generated trees, and one that no entry of them has.
func plainPaths(most int) []string {
	all := []string{"/"}
	last := []string{""}
	for range most {
		var longer []string
		for _, p := range last {
			for _, name := range append(slices.Clone(names), "q") {
				longer = append(longer, p+"/"+name)
			}
		}
		all = append(all, longer...)
		last = longer
	}
	return all
}

// copied answers the file system in lists of its own, those that are empty as nil.
func copied(f api.Fs) api.Fs {
	var inodes []api.Inode
	for _, x := range f.Inodes {
		x.Entries = append([]api.Entry(nil), x.Entries...)
		inodes = append(inodes, x)
	}
	f.Inodes = inodes
	return f
}

// alike tells whether two file systems read alike.
func alike(a, b api.Fs) bool {
	return reflect.DeepEqual(copied(a), copied(b))
}

// inodesAlike tells whether two inodes read alike.
func inodesAlike(x, y api.Inode) bool {
	return alike(api.Fs{Inodes: []api.Inode{x}}, api.Fs{Inodes: []api.Inode{y}})
}

// expectSound asks whether the file system is sound.
func expectSound(t *testing.T, f api.Fs) {
	t.Helper()
	if n := sound.Check(f); n != 0 {
		t.Fatalf("%+v isn't sound: rule %d", f, n)
	}
}

// expectSpot asks At where the path leads, and Get for the inode there, or for ErrNone, if there is none.
func expectSpot(t *testing.T, f api.Fs, p string, want api.Spotted) {
	t.Helper()
	if got, e := At(f, p); got != want || e != api.OK {
		t.Errorf("At of %q: %+v, %d, not %+v", p, got, e, want)
	}
	x, wantErr := inodeOf(f, want.Ino), api.OK
	if x.Ino == 0 {
		wantErr = api.ErrNone
	}
	if got, e := Get(f, p); !inodesAlike(got, x) || e != wantErr {
		t.Errorf("Get of %q: %+v, %d, not %+v, %d", p, got, e, x, wantErr)
	}
}

// expectErr asks At and Get for the error, and for nothing beside it.
func expectErr(t *testing.T, f api.Fs, p string, want api.Errno) {
	t.Helper()
	if got, e := At(f, p); got != (api.Spotted{}) || e != want {
		t.Errorf("At of %q: %+v, %d, not %d", p, got, e, want)
	}
	if got, e := Get(f, p); !inodesAlike(got, api.Inode{}) || e != want {
		t.Errorf("Get of %q: %+v, %d, not %d", p, got, e, want)
	}
}

// expectLed asks At and Get for what the chapter's words say of the plain path.
func expectLed(t *testing.T, f api.Fs, p string) {
	t.Helper()
	want, e := ledBy(f, p)
	if e != api.OK {
		expectErr(t, f, p, e)
		return
	}
	expectSpot(t, f, p, want)
}

// expectFs asks whether what was answered reads as it should.
func expectFs(t *testing.T, what string, got, want api.Fs) {
	t.Helper()
	if !alike(got, want) {
		t.Errorf("%s: %+v, not %+v", what, got, want)
	}
}

// P9.1

func TestRootAlone(t *testing.T) {
	empty := rootAlone(t)
	empty.Inodes[0].Entries = []api.Entry{}
	for _, f := range []api.Fs{rootAlone(t), empty} {
		expectSpot(t, f, "/", api.Spotted{Dir: 0, Name: "", Ino: 1})
		expectSpot(t, f, "/a", api.Spotted{Dir: 1, Name: "a", Ino: 0})
		expectErr(t, f, "/a/b", api.ErrNone)
		expectErr(t, f, "/a/b/c", api.ErrNone)
	}
	if x, e := Get(rootAlone(t), "/"); x.Ino != 1 || x.Kind != api.Dir || x.Parent != 1 || e != api.OK {
		t.Errorf("Get of /: %+v, %d", x, e)
	}
}

func TestChaptersExample(t *testing.T) {
	f := treeOf(line{"/d", api.Dir, 7, ""})
	expectSpot(t, f, "/d/f", api.Spotted{Dir: 7, Name: "f", Ino: 0})
	expectSpot(t, f, "/d", api.Spotted{Dir: 1, Name: "d", Ino: 7})
	f = treeOf(line{"/d", api.Dir, 7, ""}, line{"/d/f", api.File, 3, "abc"})
	expectSpot(t, f, "/d/f", api.Spotted{Dir: 7, Name: "f", Ino: 3})
	if x, e := Get(f, "/d/f"); x.Data != "abc" || x.Ino != 3 || e != api.OK {
		t.Errorf("Get of /d/f: %+v, %d", x, e)
	}
}

func TestLastNameIsThere(t *testing.T) {
	expectSound(t, tree())
	for p, want := range treeSpots() {
		expectSpot(t, tree(), p, want)
	}
}

func TestLastNameIsNotThere(t *testing.T) {
	for p, want := range freeSpots() {
		expectSpot(t, tree(), p, want)
	}
}

func TestBehindAFile(t *testing.T) {
	for _, p := range []string{"/b/x", "/b/b", "/b/x/y", "/d/f/x", "/d/e/f/x", "/d/e/f/x/y/z", "/z/d/f/f"} {
		expectErr(t, tree(), p, api.ErrNotDir)
	}
}

func TestLinksAreNotFollowed(t *testing.T) {
	for _, p := range []string{"/s/f", "/s/e/f", "/s/none", "/r/d", "/r/d/f", "/d/s/f", "/d/s/none", "/u/x", "/u/x/y"} {
		expectErr(t, tree(), p, api.ErrNotDir)
	}
	for p, target := range map[string]string{"/s": "d/", "/r": "/", "/d/s": "e", "/u": "none"} {
		if x, e := Get(tree(), p); x.Kind != api.Sym || x.Data != target || e != api.OK {
			t.Errorf("Get of the link %q: %+v, %d", p, x, e)
		}
	}
}

func TestBehindNoEntry(t *testing.T) {
	for _, p := range []string{"/c/x", "/none/x", "/A/x", "/a/b/c", "/f/x", "/d/a/x", "/d/d/f", "/d/e/x/y/z", "/z/f/x", "/z/d/s/f", "/.../x"} {
		expectErr(t, tree(), p, api.ErrNone)
	}
}

func TestFirstThatIsMet(t *testing.T) {
	for p, want := range map[string]api.Errno{
		"/none/b/x":     api.ErrNone,
		"/b/none/x":     api.ErrNotDir,
		"/none/s/x":     api.ErrNone,
		"/s/none/x":     api.ErrNotDir,
		"/d/none/f/x":   api.ErrNone,
		"/d/f/none/x":   api.ErrNotDir,
		"/d/s/none/x":   api.ErrNotDir,
		"/d/e/none/f/x": api.ErrNone,
		"/d/e/f/none/x": api.ErrNotDir,
		"/a/b/x":        api.ErrNone,
		"/b/a/x":        api.ErrNotDir,
	} {
		expectErr(t, tree(), p, want)
	}
}

// notPlain answers paths that aren't plain, in parts of which there is, and isn't, something in the tree.
func notPlain() []string {
	long := strings.Repeat("n", 256)
	return []string{
		"", "d", "d/f", "none", "d/", "./d", "../d", ".", "..", " /d", "\x00/d",
		"//", "///", "//d", "//d/f", "/d//f", "/d/", "/d//", "/d/e/", "/b/", "/none/", "/s/",
		"/.", "/..", "/./d", "/../d", "/d/.", "/d/..", "/d/./f", "/d/../d", "/d/e/..", "/s/.", "/none/..",
		"/\x00", "/d\x00", "/d/\x00", "/d/f\x00", "/\x00d/f", "/d\x00/f", "/a\x00b/x",
		"/" + long, "/d/" + long, "/" + long + "/f", "/none/" + long, "/b/" + long,
		"/b/x/", "/b//x", "/b/./x", "/none/x/", "/none//x", "/none/../x", "/b/none/\x00",
	}
}

func TestNotPlain(t *testing.T) {
	for _, p := range notPlain() {
		expectErr(t, tree(), p, api.ErrArg)
		expectErr(t, rootAlone(t), p, api.ErrArg)
	}
}

func TestGreatestLengths(t *testing.T) {
	long, other := strings.Repeat("n", 255), strings.Repeat("n", 254)+"o"
	f := treeOf(line{"/" + long, api.Dir, 2, ""}, line{"/" + long + "/" + long, api.File, 3, "abc"})
	expectSound(t, f)
	expectSpot(t, f, "/"+long, api.Spotted{Dir: 1, Name: long, Ino: 2})
	expectSpot(t, f, "/"+long+"/"+long, api.Spotted{Dir: 2, Name: long, Ino: 3})
	expectSpot(t, f, "/"+other, api.Spotted{Dir: 1, Name: other})
	expectSpot(t, f, "/"+long[1:], api.Spotted{Dir: 1, Name: long[1:]})
	expectErr(t, f, "/"+long+"n", api.ErrArg)
	expectErr(t, f, "/"+other+"/x", api.ErrNone)
	expectErr(t, f, "/"+long+"/"+long+"/x", api.ErrNotDir)
	// A path may be plain, and lead, though it is longer than MaxPath.
	const many = 40
	f = rowOf(many, long)
	for ino := 2; ino <= many; ino++ {
		expectSpot(t, f, strings.Repeat("/"+long, ino-1), api.Spotted{Dir: ino - 1, Name: long, Ino: ino})
	}
	expectSpot(t, f, strings.Repeat("/"+long, many), api.Spotted{Dir: many, Name: long})
	expectErr(t, f, strings.Repeat("/"+long, many+1), api.ErrNone)
}

func TestNamesOfAnyBytes(t *testing.T) {
	var lines []line
	for i, name := range []string{"...", ".a", "a.", " ", "-", "\\", "\"", "\x01", "\x7f", "\xff\xfe", "é", "a b", "a\nb"} {
		lines = append(lines, line{"/" + name, api.Dir, i + 2, ""})
	}
	f := treeOf(lines...)
	expectSound(t, f)
	for _, l := range lines {
		expectSpot(t, f, l.path, api.Spotted{Dir: 1, Name: l.path[1:], Ino: l.ino})
		expectSpot(t, f, l.path+"/x", api.Spotted{Dir: l.ino, Name: "x"})
	}
}

func TestEachPathInEachTree(t *testing.T) {
	trees, paths := 0, plainPaths(4)
	eachTree(func(f api.Fs) {
		trees++
		expectSound(t, f)
		for _, p := range paths {
			expectLed(t, f, p)
		}
	})
	if trees < 200 || len(paths) != 341 {
		t.Errorf("%d trees, %d paths", trees, len(paths))
	}
}

// P9.2

// expectPut asks Put for the file system in which the directory of that number has the entry, and At and Get for where that leads then.
func expectPut(t *testing.T, f api.Fs, p string, ino int) {
	t.Helper()
	at, e := ledBy(f, p)
	if e != api.OK {
		t.Fatalf("%q doesn't lead: %d", p, e)
	}
	got := Put(f, p, ino)
	expectFs(t, fmt.Sprintf("Put of %q, %d", p, ino), got, with(f, at.Dir, at.Name, ino))
	expectSpot(t, got, p, api.Spotted{Dir: at.Dir, Name: at.Name, Ino: ino})
}

// expectTake asks Take for the file system in which the directory has no such entry, and At and Get for where the path leads then.
func expectTake(t *testing.T, f api.Fs, p string) {
	t.Helper()
	at, e := ledBy(f, p)
	if e != api.OK {
		t.Fatalf("%q doesn't lead: %d", p, e)
	}
	got := Take(f, p)
	expectFs(t, fmt.Sprintf("Take of %q", p), got, without(f, at.Dir, at.Name))
	expectSpot(t, got, p, api.Spotted{Dir: at.Dir, Name: at.Name})
}

func TestPutInRoot(t *testing.T) {
	f := rootAlone(t)
	want := rootAlone(t)
	want.Inodes[0].Entries = []api.Entry{{Name: "a", Ino: 5}}
	expectFs(t, "Put of /a in Root alone", Put(f, "/a", 5), want)
	f = tree()
	want = tree()
	want.Inodes[0].Entries = []api.Entry{{Name: "a", Ino: 9}, {Name: "b", Ino: 4}, {Name: "c", Ino: 4}, {Name: "d", Ino: 3}, {Name: "r", Ino: 11}, {Name: "s", Ino: 10}, {Name: "u", Ino: 13}, {Name: "z", Ino: 6}}
	expectFs(t, "Put of a new name", Put(f, "/c", 4), want)
	want.Inodes[0].Entries = []api.Entry{{Name: "a", Ino: 9}, {Name: "b", Ino: none}, {Name: "d", Ino: 3}, {Name: "r", Ino: 11}, {Name: "s", Ino: 10}, {Name: "u", Ino: 13}, {Name: "z", Ino: 6}}
	expectFs(t, "Put of a name that is there", Put(f, "/b", none), want)
}

func TestPutDeeper(t *testing.T) {
	f, want := tree(), tree()
	want.Inodes[2].Entries = []api.Entry{{Name: "e", Ino: 12}, {Name: "f", Ino: 7}, {Name: "g", Ino: 8}, {Name: "s", Ino: 8}}
	expectFs(t, "Put of a new name", Put(f, "/d/g", 8), want)
	want.Inodes[2].Entries = []api.Entry{{Name: "e", Ino: 12}, {Name: "f", Ino: none}, {Name: "s", Ino: 8}}
	expectFs(t, "Put of a name that is there", Put(f, "/d/f", none), want)
}

func TestPutOfEachNumber(t *testing.T) {
	f := tree()
	numbers := []int{none, 1 << 40, math.MaxInt}
	for _, x := range f.Inodes {
		numbers = append(numbers, x.Ino)
	}
	for _, ino := range numbers {
		for _, spots := range []map[string]api.Spotted{treeSpots(), freeSpots()} {
			for p := range spots {
				if p != "/" {
					expectPut(t, f, p, ino)
				}
			}
		}
	}
}

func TestPutAsItIs(t *testing.T) {
	for p, at := range treeSpots() {
		if p != "/" {
			expectFs(t, "Put as it is of "+p, Put(tree(), p, at.Ino), tree())
		}
	}
}

func TestPutOfWhatPutMade(t *testing.T) {
	f := rootAlone(t)
	f = Put(f, "/c", 5)
	f = Put(f, "/a", 6)
	f = Put(f, "/b", 7)
	f = Put(f, "/a", 8)
	want := rootAlone(t)
	want.Inodes[0].Entries = []api.Entry{{Name: "a", Ino: 8}, {Name: "b", Ino: 7}, {Name: "c", Ino: 5}}
	expectFs(t, "Put, time after time", f, want)
	for p, ino := range map[string]int{"/a": 8, "/b": 7, "/c": 5, "/d": 0} {
		expectSpot(t, f, p, api.Spotted{Dir: 1, Name: p[1:], Ino: ino})
	}
}

func TestPutOfADirectory(t *testing.T) {
	// A directory that is put leads on, by a name anew and in place of a file's; what is put behind it shows by each of its names.
	f := Put(Put(tree(), "/n", 12), "/z/d/f", 12)
	for _, dir := range []string{"/d/e", "/n", "/z/d/f"} {
		expectSpot(t, f, dir+"/x", api.Spotted{Dir: 12, Name: "x", Ino: 2})
		expectSpot(t, f, dir+"/y", api.Spotted{Dir: 12, Name: "y"})
		expectPut(t, f, dir+"/y", 4)
		for _, other := range []string{"/d/e", "/n", "/z/d/f"} {
			expectSpot(t, Put(f, dir+"/y", 4), other+"/y", api.Spotted{Dir: 12, Name: "y", Ino: 4})
		}
	}
	// A directory in place of itself, or of one that lies in it, makes a way that comes round, and that ends with its names.
	f = Put(Put(tree(), "/a", 1), "/d/e/x", 3)
	expectSpot(t, f, "/a/a/a", api.Spotted{Dir: 1, Name: "a", Ino: 1})
	expectSpot(t, f, "/a/a/d/e/x/e/x/f", api.Spotted{Dir: 3, Name: "f", Ino: 7})
	expectPut(t, f, "/a/a/d/e/x/g", 4)
	expectErr(t, f, "/a/a/b/a", api.ErrNotDir)
}

func TestPutInPlaceOfADirectory(t *testing.T) {
	f := Put(tree(), "/d", 4)
	expectSpot(t, f, "/d", api.Spotted{Dir: 1, Name: "d", Ino: 4})
	expectErr(t, f, "/d/f", api.ErrNotDir)
	f = Put(tree(), "/d", 5)
	expectSpot(t, f, "/d/f", api.Spotted{Dir: 5, Name: "f", Ino: 4})
	f = Put(f, "/d", 3)
	expectFs(t, "Put there and back", f, tree())
}

func TestBehindWhatIsNoInode(t *testing.T) {
	// There is an entry, so that it isn't ErrNone; what it leads to is no directory.
	for _, ino := range []int{none, 1 << 40, math.MaxInt} {
		for _, p := range []string{"/n", "/b", "/d/e", "/d/e/n"} {
			f := Put(tree(), p, ino)
			expectErr(t, f, p+"/x", api.ErrNotDir)
			expectErr(t, f, p+"/x/y", api.ErrNotDir)
			if _, e := Get(f, p); e != api.ErrNone {
				t.Errorf("Get of %q, of number %d: %d", p, ino, e)
			}
		}
	}
}

func TestTake(t *testing.T) {
	f, want := tree(), tree()
	want.Inodes[0].Entries = []api.Entry{{Name: "a", Ino: 9}, {Name: "d", Ino: 3}, {Name: "r", Ino: 11}, {Name: "s", Ino: 10}, {Name: "u", Ino: 13}, {Name: "z", Ino: 6}}
	expectFs(t, "Take of /b", Take(f, "/b"), want)
	want = tree()
	want.Inodes[2].Entries = []api.Entry{{Name: "e", Ino: 12}, {Name: "s", Ino: 8}}
	expectFs(t, "Take of /d/f", Take(f, "/d/f"), want)
	expectSpot(t, Take(f, "/d/f"), "/d/e/f", api.Spotted{Dir: 12, Name: "f", Ino: 7})
	expectSpot(t, Take(f, "/d/f"), "/z/d/f", api.Spotted{Dir: 5, Name: "f", Ino: 4})
	for p := range treeSpots() {
		if p != "/" {
			expectTake(t, f, p)
		}
	}
	// A directory's inode stays, with all that lies in it, but no path leads there any more.
	if got := Take(f, "/d"); len(got.Inodes) != len(f.Inodes) || !inodesAlike(inodeOf(got, 3), inodeOf(f, 3)) {
		t.Errorf("Take of /d: %+v", got)
	}
	expectErr(t, Take(f, "/d"), "/d/f", api.ErrNone)
}

func TestTakeOfNoEntry(t *testing.T) {
	for p := range freeSpots() {
		expectTake(t, tree(), p)
		expectFs(t, "Take of "+p, Take(tree(), p), tree())
	}
	expectFs(t, "Take in Root alone", Take(rootAlone(t), "/a"), rootAlone(t))
}

func TestTakeOfWhatWasPut(t *testing.T) {
	for _, ino := range []int{1, 3, 4, 8, none, math.MaxInt} {
		for p := range freeSpots() {
			expectFs(t, fmt.Sprintf("Take of %q, put anew with %d", p, ino), Take(Put(tree(), p, ino), p), tree())
		}
		for p, at := range treeSpots() {
			if p != "/" {
				expectFs(t, fmt.Sprintf("Take of %q, put with %d in place of another", p, ino), Take(Put(tree(), p, ino), p), without(tree(), at.Dir, at.Name))
				expectFs(t, fmt.Sprintf("Put of %q, as it was taken", p), Put(Take(tree(), p), p, at.Ino), tree())
			}
		}
	}
}

func TestAllElseStays(t *testing.T) {
	f := tree()
	for _, p := range []string{"/b", "/c", "/d", "/d/e", "/d/e/x", "/d/f", "/d/g", "/z/d/f"} {
		at, _ := ledBy(f, p)
		for what, got := range map[string]api.Fs{"Put with a number that is there": Put(f, p, 4), "Put with one that isn't": Put(f, p, none), "Take": Take(f, p)} {
			if got.MaxInodes != f.MaxInodes || got.MaxBytes != f.MaxBytes || got.Next != f.Next || len(got.Inodes) != len(f.Inodes) {
				t.Errorf("%s, of %q: %+v", what, p, got)
				continue
			}
			for i, x := range f.Inodes {
				y := got.Inodes[i]
				if x.Ino == at.Dir {
					x.Entries, y.Entries = nil, nil
				}
				if !inodesAlike(x, y) {
					t.Errorf("%s, of %q: inode %+v, not %+v", what, p, y, x)
				}
			}
		}
	}
}

func TestPutAndTakeInEachTree(t *testing.T) {
	paths := plainPaths(3)
	done := 0
	eachTree(func(f api.Fs) {
		for _, p := range paths[1:] {
			if _, e := ledBy(f, p); e != api.OK {
				continue
			}
			expectTake(t, f, p)
			g := Take(f, p)
			for _, ino := range []int{1, 3, 20, none} {
				done++
				expectPut(t, f, p, ino)
				expectPut(t, g, p, ino)
			}
			f := Put(f, p, 2)
			for _, q := range paths {
				expectLed(t, f, q)
			}
		}
	})
	if done < 1000 {
		t.Errorf("%d were put", done)
	}
}

// P9.3

// expectWalk asks whether each path of the walk leads to its inode.
func expectWalk(t *testing.T, f api.Fs) {
	t.Helper()
	expectSound(t, f)
	for _, s := range walk.List(f) {
		if at, e := At(f, s.Path); at.Ino != s.Ino || e != api.OK {
			t.Errorf("At of the walk's %q: %+v, %d, not %d", s.Path, at, e, s.Ino)
		}
	}
	for p, x := range walk.All(f) {
		if y, e := Get(f, p); !inodesAlike(x, y) || e != api.OK {
			t.Errorf("Get of the walk's %q: %+v, %d, not %+v", p, y, e, x)
		}
	}
}

func TestPathsOfTheWalk(t *testing.T) {
	expectWalk(t, rootAlone(t))
	expectWalk(t, tree())
	expectWalk(t, rowOf(300, "n"))
	expectWalk(t, treeOf(
		line{"/d", api.Dir, 2, ""},
		line{"/d/f", api.File, 3, "abc"},
		line{"/d/g", api.File, 3, "abc"},
		line{"/d\x01", api.Dir, 4, ""},
		line{"/d\x01/f", api.File, 3, "abc"},
		line{"/d-", api.Sym, 5, "d"},
		line{"/s", api.Sym, 5, "d"},
		line{"/\xff", api.File, 3, "abc"},
	))
	eachTree(func(f api.Fs) { expectWalk(t, f) })
}

func TestDeep(t *testing.T) {
	const many = 1 << 16
	f := rowOf(many, "n")
	for _, ino := range []int{2, 3, many / 2, many - 1, many} {
		p := strings.Repeat("/n", ino-1)
		if at, e := At(f, p); at != (api.Spotted{Dir: ino - 1, Name: "n", Ino: ino}) || e != api.OK {
			t.Errorf("At of %d names: %+v, %d", ino-1, at, e)
		}
		if q, _ := walk.PathOf(f, ino); q != p {
			t.Errorf("the walk comes to %d by another path", ino)
		}
	}
	p := strings.Repeat("/n", many)
	expectSpot(t, f, p, api.Spotted{Dir: many, Name: "n"})
	expectErr(t, f, p+"/n", api.ErrNone)
	g := Put(f, p, none)
	expectFs(t, "Put in the deepest", g, with(f, many, "n", none))
	expectSpot(t, g, p, api.Spotted{Dir: many, Name: "n", Ino: none})
	expectFs(t, "Take in the deepest", Take(g, p), f)
	expectFs(t, "Take of the deepest", Take(f, p[2:]), without(f, many-1, "n"))
}

func TestWide(t *testing.T) {
	const many = 1 << 12
	f := rootAlone(t)
	f.MaxInodes, f.Next = many+1, many+2
	for i := range many {
		f.Inodes[0].Entries = append(f.Inodes[0].Entries, api.Entry{Name: fmt.Sprintf("%08d", i), Ino: i + 2})
		f.Inodes = append(f.Inodes, api.Inode{Ino: i + 2, Kind: api.Dir, Links: 1, Parent: 1})
	}
	expectWalk(t, f)
	expectSpot(t, f, "/00000000/x", api.Spotted{Dir: 2, Name: "x"})
	expectPut(t, f, "/00000777-", 5)
	expectTake(t, f, "/00000777")
}

// P9.4

// roomy answers the file system in lists of its own, each with room behind it that isn't empty.
func roomy(f api.Fs) api.Fs {
	behind := api.Entry{Name: "zzz", Ino: 77}
	f = copied(f)
	for i, x := range f.Inodes {
		f.Inodes[i].Entries = append(x.Entries, behind, behind, behind)[:len(x.Entries)]
	}
	last := api.Inode{Ino: 88, Kind: api.File, Links: 8, Data: "behind"}
	f.Inodes = append(f.Inodes, last, last, last)[:len(f.Inodes)]
	return f
}

// wholly answers the file system with the room behind its lists laid open.
func wholly(f api.Fs) api.Fs {
	f.Inodes = slices.Clone(f.Inodes[:cap(f.Inodes)])
	for i, x := range f.Inodes {
		f.Inodes[i].Entries = x.Entries[:cap(x.Entries)]
	}
	return copied(f)
}

// allPaths answers paths that lead in the tree, to an inode and to none, and such that don't.
func allPaths() []string {
	all := []string{"/none/x", "/b/x", "/s/f", "/d/s/f", "/d/e/f/x", "/zzz", "/d/zzz", "/a/zzz"}
	for p := range treeSpots() {
		all = append(all, p)
	}
	for p := range freeSpots() {
		all = append(all, p)
	}
	return slices.Concat(all, notPlain())
}

func TestHandedInStays(t *testing.T) {
	f := roomy(tree())
	before := wholly(f)
	for _, p := range allPaths() {
		At(f, p)
		Get(f, p)
		for _, ino := range []int{1, 3, 4, 77, 88, none} {
			Put(f, p, ino)
			Put(Put(f, p, ino), p, 4)
			Take(Put(f, p, ino), p)
		}
		Take(f, p)
		Put(Take(f, p), p, 4)
		if after := wholly(f); !reflect.DeepEqual(after, before) {
			t.Fatalf("handed in with %q: %+v, not %+v", p, after, before)
		}
	}
}

func TestRoomIsNotGoneThrough(t *testing.T) {
	f := roomy(tree())
	expectSpot(t, f, "/zzz", api.Spotted{Dir: 1, Name: "zzz"})
	expectSpot(t, f, "/a/zzz", api.Spotted{Dir: 9, Name: "zzz"})
	expectErr(t, f, "/zzz/x", api.ErrNone)
	expectPut(t, f, "/zzz", 88)
	expectTake(t, f, "/zzz")
}

func TestWhatPutMadeStays(t *testing.T) {
	// Two that are made of one may not write into each other, nor into what they are made of.
	f := roomy(Put(tree(), "/d/g", none))
	first, second, third := Put(f, "/d/h", 4), Put(f, "/d/i", 8), Take(f, "/d/e")
	for _, x := range []struct {
		what      string
		got, want api.Fs
	}{
		{"what was handed in", f, with(tree(), 3, "g", none)},
		{"the first Put", first, with(with(tree(), 3, "g", none), 3, "h", 4)},
		{"the second Put", second, with(with(tree(), 3, "g", none), 3, "i", 8)},
		{"Take", third, without(with(tree(), 3, "g", none), 3, "e")},
	} {
		expectFs(t, x.what, x.got, x.want)
	}
}

// shares tells whether two texts have memory in common.
func shares(a, b string) bool {
	if a == "" || b == "" {
		return false
	}
	x, y := uintptr(unsafe.Pointer(unsafe.StringData(a))), uintptr(unsafe.Pointer(unsafe.StringData(b)))
	return x < y+uintptr(len(b)) && y < x+uintptr(len(a))
}

func TestTextsAreNew(t *testing.T) {
	f := tree()
	var handed []string
	for _, x := range f.Inodes {
		handed = append(handed, x.Data)
		for _, e := range x.Entries {
			handed = append(handed, e.Name)
		}
	}
	var answered []string
	for _, p := range []string{"/b", "/c", "/d/f", "/d/s", "/d/g", "/z/d/f"} {
		handed = append(handed, p)
		for range 2 {
			at, _ := At(f, p)
			x, _ := Get(f, p)
			answered = append(answered, at.Name, x.Data)
		}
	}
	for i, a := range answered {
		for _, b := range slices.Concat(handed, answered[:i]) {
			if shares(a, b) {
				t.Errorf("%q, which was answered, shares memory with %q", a, b)
			}
		}
	}
}

func TestPathIsNotKept(t *testing.T) {
	p := "/d/" + strings.Repeat("g", 3)
	for _, x := range Put(tree(), p, 4).Inodes {
		for _, e := range x.Entries {
			if shares(e.Name, p) {
				t.Errorf("Put of %q keeps the path's memory in the entry %q", p, e.Name)
			}
		}
	}
}

// The rules that hold everywhere

func TestWhateverPathIsAnswered(t *testing.T) {
	// Of Put and Take of such paths nothing is promised but that they end, and leave what is handed in.
	for _, f := range []api.Fs{tree(), rootAlone(t), Put(tree(), "/d", none)} {
		before := copied(f)
		for _, p := range allPaths() {
			for _, ino := range []int{math.MinInt, -1, 0, 1, math.MaxInt} {
				Put(f, p, ino)
			}
			Take(f, p)
		}
		expectFs(t, "handed in", f, before)
	}
}
