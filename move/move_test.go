package move

import (
	"cmp"
	"fmt"
	"math"
	"reflect"
	"slices"
	"strconv"
	"strings"
	"testing"
	"unsafe"

	"drayman/api"
	"drayman/place"
	"drayman/seek"
	"drayman/sound"
	"drayman/table"
	"drayman/walk"
)

// line is an entry of a tree: where it stands, and the inode that it names, whose Data are of a file or a link alone.
type line struct {
	path string
	kind int
	ino  int
	data string
}

// treeOf answers the file system of these entries, a directory's own ahead of those in it, with room for no inode and no byte more.
func treeOf(lines ...line) api.Fs {
	inodes := map[int]*api.Inode{1: {Ino: 1, Kind: api.Dir, Parent: 1}}
	dirs := map[string]*api.Inode{"": inodes[1]}
	f := api.Fs{Next: 2}
	for _, l := range lines {
		cut := strings.LastIndexByte(l.path, '/')
		dir := dirs[l.path[:cut]]
		dir.Entries = append(dir.Entries, api.Entry{Name: l.path[cut+1:], Ino: l.ino})
		if inodes[l.ino] == nil {
			inodes[l.ino] = &api.Inode{Ino: l.ino, Kind: l.kind, Data: l.data}
			if l.kind == api.File {
				f.MaxBytes += len(l.data)
			}
		}
		inodes[l.ino].Links++
		if l.kind == api.Dir {
			inodes[l.ino].Parent = dir.Ino
			dirs[l.path] = inodes[l.ino]
		}
		f.Next = max(f.Next, l.ino+1)
	}
	for _, x := range inodes {
		slices.SortFunc(x.Entries, byName)
		f.Inodes = append(f.Inodes, *x)
	}
	slices.SortFunc(f.Inodes, func(x, y api.Inode) int { return cmp.Compare(x.Ino, y.Ino) })
	f.MaxInodes = len(f.Inodes)
	return f
}

func byName(a, b api.Entry) int { return cmp.Compare(a.Name, b.Name) }

// tree answers a file system of directories in one another, two of them without entries, files of one name and of two, a link of two names, and links: to directories, to a file, to nothing, to itself, to a path with dots at its end.
func tree() api.Fs {
	f := treeOf(
		line{"/a", api.Dir, 9, ""},
		line{"/b", api.File, 4, "abc"},
		line{"/c", api.File, 5, "\x00\xffdata"},
		line{"/d", api.Dir, 3, ""},
		line{"/d/e", api.Dir, 12, ""},
		line{"/d/e/f", api.File, 7, "ff"},
		line{"/d/e/up", api.Sym, 20, ".."},
		line{"/d/e/v", api.Dir, 22, ""},
		line{"/d/e/v/w", api.Dir, 27, ""},
		line{"/d/f", api.File, 7, "ff"},
		line{"/d/here", api.Sym, 19, "."},
		line{"/d/s", api.Sym, 8, "/d/e"},
		line{"/dead", api.Sym, 13, "d/none"},
		line{"/deads", api.Sym, 14, "none/"},
		line{"/deep", api.Sym, 15, "none/x"},
		line{"/dot", api.Sym, 23, "a/."},
		line{"/dots", api.Sym, 24, "d/e/v/.."},
		line{"/long", api.Sym, 16, strings.Repeat("n", 256)},
		line{"/me", api.Sym, 17, "me"},
		line{"/r", api.Sym, 11, "/"},
		line{"/s", api.Sym, 10, "d/"},
		line{"/t", api.Sym, 10, "d/"},
		line{"/toa", api.Sym, 25, "a"},
		line{"/tob", api.Sym, 21, "b"},
		line{"/tow", api.Sym, 26, "s/e/v/w/"},
	)
	f.Next = 30
	return f
}

// copied answers the file system in lists of its own, those that are empty as nil.
func copied(f api.Fs) api.Fs {
	var inodes []api.Inode
	for _, x := range f.Inodes {
		x.Entries = append([]api.Entry(nil), x.Entries...)
		inodes = append(inodes, x)
	}
	f.Inodes = inodes
	return f
}

// alike tells whether two file systems read alike.
func alike(f, g api.Fs) bool { return reflect.DeepEqual(copied(f), copied(g)) }

// inode answers the file system's inode of that number; none, if there is none.
func inode(f api.Fs, ino int) api.Inode {
	for _, x := range f.Inodes {
		if x.Ino == ino {
			return x
		}
	}
	return api.Inode{}
}

// isDir tells whether that number is a directory's.
func isDir(f api.Fs, ino int) bool { return inode(f, ino).Kind == api.Dir }

// below tells whether a plain path is the other one, or goes on behind it.
func below(p, above string) bool {
	return p == above || above == "/" || strings.HasPrefix(p, above+"/")
}

// lies tells, by the directories' paths alone, whether the first one lies in the second one.
func lies(f api.Fs, dir, of int) bool {
	p, _ := walk.PathOf(f, dir)
	above, _ := walk.PathOf(f, of)
	return below(p, above)
}

// pathAt answers the plain path of the entry there.
func pathAt(f api.Fs, at api.Spotted) string {
	above, _ := walk.PathOf(f, at.Dir)
	return strings.TrimSuffix(above, "/") + "/" + at.Name
}

// moved answers, of the chapter's words alone, the file system behind the move.
func moved(f api.Fs, from, to api.Spotted) api.Fs {
	f = copied(f)
	var stay []api.Inode
	for _, x := range f.Inodes {
		x.Entries = slices.DeleteFunc(x.Entries, func(e api.Entry) bool {
			return x.Ino == from.Dir && e.Name == from.Name || x.Ino == to.Dir && e.Name == to.Name
		})
		if x.Ino == to.Dir {
			x.Entries = append(x.Entries, api.Entry{Name: to.Name, Ino: from.Ino})
			slices.SortFunc(x.Entries, byName)
		}
		if x.Ino == from.Ino && x.Kind == api.Dir {
			x.Parent = to.Dir
		}
		if x.Ino == to.Ino {
			x.Links--
		}
		if x.Ino != to.Ino || x.Links != 0 {
			stay = append(stay, x)
		}
	}
	f.Inodes = stay
	return f
}

// wrongName tells, of the document's words alone, whether the name may not be.
func wrongName(name string) bool {
	return name == "" || name == "." || name == ".." || len(name) > 255 || strings.ContainsAny(name, "/\x00")
}

// renamed answers, of the chapter's words alone, what Rename does.
func renamed(f api.Fs, base, from, to string) (api.Fs, api.Errno) {
	here, e := seek.Seek(f, base, from, false)
	if e != api.OK {
		return f, e
	}
	if here.Ino == 0 {
		return f, api.ErrNone
	}
	if here.Name == "" {
		return f, api.ErrBusy
	}
	there, e := seek.Seek(f, base, to, false)
	if e != api.OK {
		return f, e
	}
	if there.Name == "" {
		return f, api.ErrBusy
	}
	if there.Ino == here.Ino {
		return f, api.OK
	}
	dir := isDir(f, here.Ino)
	if dir && lies(f, there.Dir, here.Ino) {
		return f, api.ErrArg
	}
	if there.Ino != 0 {
		if dir && !isDir(f, there.Ino) {
			return f, api.ErrNotDir
		}
		if !dir && isDir(f, there.Ino) {
			return f, api.ErrIsDir
		}
		if len(inode(f, there.Ino).Entries) > 0 {
			return f, api.ErrFull
		}
	} else {
		if strings.HasSuffix(to, "/") && !dir {
			return f, api.ErrNotDir
		}
		if wrongName(there.Name) {
			return f, api.ErrArg
		}
	}
	return moved(f, here, there), api.OK
}

// expectSound asks whether the file system is sound.
func expectSound(t *testing.T, f api.Fs) {
	t.Helper()
	if n := sound.Check(f); n != 0 {
		t.Fatalf("%+v isn't sound: rule %d", f, n)
	}
}

// sorted answers what was seen, by its paths.
func sorted(l []api.Seen) []api.Seen {
	return slices.SortedFunc(slices.Values(l), func(a, b api.Seen) int { return cmp.Compare(a.Path, b.Path) })
}

// expectWalk asks whether the walk of got is that of f, what stood at the new path gone, and what stood at and below the old one at and below the new one.
func expectWalk(t *testing.T, what string, f, got api.Fs, from, to api.Spotted) {
	t.Helper()
	old, now := pathAt(f, from), pathAt(f, to)
	var want []api.Seen
	for _, seen := range walk.List(f) {
		switch {
		case below(seen.Path, now):
			continue
		case below(seen.Path, old):
			seen.Path = now + strings.TrimPrefix(seen.Path, old)
		}
		want = append(want, seen)
	}
	if steps := sorted(walk.List(got)); !slices.Equal(steps, sorted(want)) {
		t.Errorf("%s: the walk is %v, not %v", what, steps, sorted(want))
	}
	if at, e := place.At(got, old); at.Ino != 0 || e != api.OK {
		t.Errorf("%s: at the old path there is %+v, %d", what, at, e)
	}
}

// expectMoved asks whether got is f behind the move, is sound, and is gone through as f is, but for that.
func expectMoved(t *testing.T, what string, f, got api.Fs, e api.Errno, from, to api.Spotted) {
	t.Helper()
	if want := moved(f, from, to); e != api.OK || !alike(got, want) {
		t.Errorf("%s: %+v, %d, not %+v", what, got, e, want)
		return
	}
	expectSound(t, got)
	expectWalk(t, what, f, got, from, to)
	x, y := inode(f, from.Ino), inode(got, from.Ino)
	if y.Links != x.Links || y.Kind == api.Dir && y.Parent != to.Dir || y.Kind != api.Dir && y.Parent != 0 {
		t.Errorf("%s: of %+v there is %+v", what, x, y)
	}
	x, y = inode(f, to.Ino), inode(got, to.Ino)
	if x.Links == 1 && y.Ino != 0 || x.Links > 1 && y.Links != x.Links-1 {
		t.Errorf("%s: of %+v, over which it was moved, there is %+v", what, x, y)
	}
}

// expectRenamed asks Rename for the move from there to there, found by the paths.
func expectRenamed(t *testing.T, f api.Fs, base, from, to string, here, there api.Spotted) {
	t.Helper()
	got, e := Rename(f, base, from, to)
	expectMoved(t, fmt.Sprintf("Rename of %.60q to %.60q from %.60q", from, to, base), f, got, e, here, there)
}

// expectByPath asks Rename for the move from the plain path to the plain path, found by these paths.
func expectByPath(t *testing.T, f api.Fs, base, from, to, old, now string) {
	t.Helper()
	here, e := place.At(f, old)
	there, e2 := place.At(f, now)
	if here.Ino == 0 || e != api.OK || e2 != api.OK {
		t.Fatalf("%q leads to %+v, %d, %q to %d", old, here, e, now, e2)
	}
	expectRenamed(t, f, base, from, to, here, there)
}

// expectSame asks Rename for the error, or OK, and for the file system as it was.
func expectSame(t *testing.T, f api.Fs, base, from, to string, want api.Errno) {
	t.Helper()
	if got, e := Rename(f, base, from, to); e != want || !alike(got, f) {
		t.Errorf("Rename of %.60q to %.60q from %.60q: %+v, %d, not as it was, %d", from, to, base, got, e, want)
	}
}

// P14.1

func TestInsideWrittenOut(t *testing.T) {
	f := tree()
	for _, x := range []struct {
		dir, of int
		want    bool
	}{
		{1, 1, true}, {1, 3, false}, {1, 27, false},
		{3, 3, true}, {3, 1, true}, {3, 12, false}, {3, 9, false}, {3, 27, false},
		{9, 9, true}, {9, 1, true}, {9, 3, false}, {9, 12, false},
		{12, 12, true}, {12, 3, true}, {12, 1, true}, {12, 22, false}, {12, 9, false},
		{22, 22, true}, {22, 12, true}, {22, 3, true}, {22, 1, true}, {22, 27, false}, {22, 9, false},
		{27, 27, true}, {27, 22, true}, {27, 12, true}, {27, 3, true}, {27, 1, true}, {27, 9, false},
	} {
		if got := Inside(f, x.dir, x.of); got != x.want {
			t.Errorf("Inside of %d in %d: %t", x.dir, x.of, got)
		}
	}
	if !Inside(treeOf(), 1, 1) {
		t.Error("Root doesn't lie in Root, where it is alone")
	}
	// Siblings whose paths begin alike.
	f = treeOf(line{"/d", api.Dir, 2, ""}, line{"/de", api.Dir, 3, ""}, line{"/d/e", api.Dir, 4, ""}, line{"/de/e", api.Dir, 5, ""})
	for _, x := range [][2]int{{2, 3}, {3, 2}, {4, 3}, {5, 2}, {4, 5}, {5, 4}} {
		if Inside(f, x[0], x[1]) {
			t.Errorf("Inside of %d in %d", x[0], x[1])
		}
	}
}

// chain answers the file system of so many directories in one another below Root, whose numbers go up or down.
func chain(n int, up bool) api.Fs {
	var lines []line
	p := ""
	for i := range n {
		p += "/d" + strconv.Itoa(i%7)
		ino := 2 + i
		if !up {
			ino = n + 1 - i
		}
		lines = append(lines, line{p, api.Dir, ino, ""})
	}
	return treeOf(lines...)
}

func TestInsideManyLevelsDown(t *testing.T) {
	for _, n := range []int{1, 2, 3, 41, 100} {
		for _, up := range []bool{true, false} {
			f := chain(n, up)
			expectSound(t, f)
			// levels holds the directories' numbers, from Root down.
			levels := []int{1}
			for _, seen := range walk.List(f)[1:] {
				levels = append(levels, seen.Ino)
			}
			for i, dir := range levels {
				for j, of := range levels {
					if got := Inside(f, dir, of); got != (i >= j) {
						t.Fatalf("Inside of level %d in level %d of %d: %t", i, j, n, got)
					}
				}
			}
		}
	}
	f := chain(1000, true)
	if !Inside(f, 1001, 2) || !Inside(f, 1001, 1) || !Inside(f, 1001, 1000) || Inside(f, 1000, 1001) || Inside(f, 2, 1001) || Inside(f, 1, 2) {
		t.Error("Inside, a thousand levels down")
	}
}

// free answers names that aren't in the tree: ahead of, between and behind those that are there.
func free() []string {
	return []string{"A", " ", "\x01", "...", "aa", "bb", "dd", "eq", "g", "none", "sa", "zzz", "é", "\xff", strings.Repeat("n", 255)}
}

// dirs answers the numbers of the tree's directories.
func dirs() []int { return []int{1, 3, 9, 12, 22, 27} }

// entries answers where each of the tree's entries stands.
func entries(f api.Fs) []api.Spotted {
	var all []api.Spotted
	for _, seen := range walk.List(f)[1:] {
		at, _ := place.At(f, seen.Path)
		all = append(all, at)
	}
	return all
}

func TestMoveToWhereNothingIs(t *testing.T) {
	f := tree()
	expectSound(t, f)
	count := 0
	for _, from := range entries(f) {
		for _, dir := range dirs() {
			if isDir(f, from.Ino) && lies(f, dir, from.Ino) {
				continue
			}
			for _, name := range free() {
				to := api.Spotted{Dir: dir, Name: name}
				what := fmt.Sprintf("Move from %v to %.60q", from, fmt.Sprint(to))
				got := Move(f, from, to)
				expectMoved(t, what, f, got, api.OK, from, to)
				if len(got.Inodes) != len(f.Inodes) {
					t.Errorf("%s: %d inodes", what, len(got.Inodes))
				}
				// What is moved back is as it was.
				to.Ino = from.Ino
				if back := Move(got, to, api.Spotted{Dir: from.Dir, Name: from.Name}); !alike(back, f) {
					t.Errorf("%s, and back: %+v, not %+v", what, back, f)
				}
				count++
			}
		}
	}
	if count != 2085 {
		t.Errorf("%d moves", count)
	}
}

func TestMoveOver(t *testing.T) {
	// What lies over what, the kinds mixed: Move asks nothing about these.
	f := tree()
	count := 0
	for _, from := range entries(f) {
		for _, to := range entries(f) {
			if from.Ino == to.Ino || len(inode(f, to.Ino).Entries) > 0 || isDir(f, from.Ino) && lies(f, to.Dir, from.Ino) {
				continue
			}
			expectMoved(t, fmt.Sprintf("Move from %v to %v", from, to), f, Move(f, from, to), api.OK, from, to)
			count++
		}
	}
	if count < 450 {
		t.Errorf("%d moves", count)
	}
}

func TestWrittenOut(t *testing.T) {
	f := api.Fs{MaxInodes: 5, MaxBytes: 5, Next: 8, Inodes: []api.Inode{
		{Ino: 1, Kind: api.Dir, Parent: 1, Entries: []api.Entry{{Name: "d", Ino: 2}, {Name: "k", Ino: 5}, {Name: "m", Ino: 3}}},
		{Ino: 2, Kind: api.Dir, Links: 1, Parent: 1, Entries: []api.Entry{{Name: "e", Ino: 4}, {Name: "k", Ino: 5}}},
		{Ino: 3, Kind: api.File, Links: 1, Data: "xy"},
		{Ino: 4, Kind: api.Dir, Links: 1, Parent: 2},
		{Ino: 5, Kind: api.File, Links: 2, Data: "abc"},
	}}
	overLast := api.Fs{MaxInodes: 5, MaxBytes: 5, Next: 8, Inodes: []api.Inode{
		{Ino: 1, Kind: api.Dir, Parent: 1, Entries: []api.Entry{{Name: "d", Ino: 2}, {Name: "m", Ino: 5}}},
		{Ino: 2, Kind: api.Dir, Links: 1, Parent: 1, Entries: []api.Entry{{Name: "e", Ino: 4}, {Name: "k", Ino: 5}}},
		{Ino: 4, Kind: api.Dir, Links: 1, Parent: 2},
		{Ino: 5, Kind: api.File, Links: 2, Data: "abc"},
	}}
	overOne := api.Fs{MaxInodes: 5, MaxBytes: 5, Next: 8, Inodes: []api.Inode{
		{Ino: 1, Kind: api.Dir, Parent: 1, Entries: []api.Entry{{Name: "d", Ino: 2}, {Name: "k", Ino: 5}}},
		{Ino: 2, Kind: api.Dir, Links: 1, Parent: 1, Entries: []api.Entry{{Name: "e", Ino: 4}, {Name: "k", Ino: 3}}},
		{Ino: 3, Kind: api.File, Links: 1, Data: "xy"},
		{Ino: 4, Kind: api.Dir, Links: 1, Parent: 2},
		{Ino: 5, Kind: api.File, Links: 1, Data: "abc"},
	}}
	up := api.Fs{MaxInodes: 5, MaxBytes: 5, Next: 8, Inodes: []api.Inode{
		{Ino: 1, Kind: api.Dir, Parent: 1, Entries: []api.Entry{{Name: "a", Ino: 4}, {Name: "d", Ino: 2}, {Name: "k", Ino: 5}, {Name: "m", Ino: 3}}},
		{Ino: 2, Kind: api.Dir, Links: 1, Parent: 1, Entries: []api.Entry{{Name: "k", Ino: 5}}},
		{Ino: 3, Kind: api.File, Links: 1, Data: "xy"},
		{Ino: 4, Kind: api.Dir, Links: 1, Parent: 1},
		{Ino: 5, Kind: api.File, Links: 2, Data: "abc"},
	}}
	down := api.Fs{MaxInodes: 5, MaxBytes: 5, Next: 8, Inodes: []api.Inode{
		{Ino: 1, Kind: api.Dir, Parent: 1, Entries: []api.Entry{{Name: "a", Ino: 4}, {Name: "k", Ino: 5}, {Name: "m", Ino: 3}}},
		{Ino: 2, Kind: api.Dir, Links: 1, Parent: 4, Entries: []api.Entry{{Name: "k", Ino: 5}}},
		{Ino: 3, Kind: api.File, Links: 1, Data: "xy"},
		{Ino: 4, Kind: api.Dir, Links: 1, Parent: 1, Entries: []api.Entry{{Name: "z", Ino: 2}}},
		{Ino: 5, Kind: api.File, Links: 2, Data: "abc"},
	}}
	for _, x := range []struct {
		f          api.Fs
		base       string
		from, to   string
		here, over api.Spotted
		want       api.Fs
	}{
		{f, "/", "k", "m", api.Spotted{Dir: 1, Name: "k", Ino: 5}, api.Spotted{Dir: 1, Name: "m", Ino: 3}, overLast},
		{f, "/d", "/m", "k", api.Spotted{Dir: 1, Name: "m", Ino: 3}, api.Spotted{Dir: 2, Name: "k", Ino: 5}, overOne},
		{f, "/d", "e", "../a/", api.Spotted{Dir: 2, Name: "e", Ino: 4}, api.Spotted{Dir: 1, Name: "a"}, up},
		{up, "/d", "../d/", "/a/z", api.Spotted{Dir: 1, Name: "d", Ino: 2}, api.Spotted{Dir: 4, Name: "z"}, down},
	} {
		if got := Move(x.f, x.here, x.over); !alike(got, x.want) {
			t.Errorf("Move of %v to %v: %+v, not %+v", x.here, x.over, got, x.want)
		}
		if got, e := Rename(x.f, x.base, x.from, x.to); e != api.OK || !alike(got, x.want) {
			t.Errorf("Rename of %q to %q: %+v, %d, not %+v", x.from, x.to, got, e, x.want)
		}
	}
}

// P14.2

func TestChaptersExamples(t *testing.T) {
	f := treeOf(line{"/d", api.Dir, 2, ""}, line{"/k", api.File, 3, "abc"}, line{"/m", api.File, 4, "xy"})
	expectSame(t, f, "/", "d", "d/e", api.ErrArg)
	got, e := Rename(f, "/", "k", "m")
	want := treeOf(line{"/d", api.Dir, 2, ""}, line{"/m", api.File, 3, "abc"})
	want.MaxInodes, want.MaxBytes, want.Next = 4, 5, 5
	if e != api.OK || !alike(got, want) {
		t.Errorf("Rename of a file to another one: %+v, %d, not %+v", got, e, want)
	}
}

func TestRenameToWhereNothingIs(t *testing.T) {
	f := tree()
	for _, from := range []string{"/b", "/d/f", "/me", "/a", "/d/e", "/d/e/v", "/d/e/v/w", "/toa", "/d/e/up"} {
		for _, to := range []string{"/A", "/zzz", "/d/A", "/d/zzz", "/a/q", "/d/e/c", "/d/e/v/q", "/d/e/v/w/q", "/" + strings.Repeat("n", 255)} {
			for _, base := range []string{"/", "/d/e", "/none"} {
				if below(to, from) {
					want := api.ErrNotDir
					if at, _ := place.At(f, from); isDir(f, at.Ino) {
						want = api.ErrArg
					}
					expectSame(t, f, base, from, to, want)
					continue
				}
				expectByPath(t, f, base, from, to, from, to)
			}
			if !below(to, from) {
				// By a path that isn't absolute, from the base.
				expectByPath(t, f, "/d/e", "../.."+from, "../.."+to, from, to)
			}
		}
	}
}

func TestRenameOver(t *testing.T) {
	// What is a file, a link, a directory with entries or without, over each of these.
	f := tree()
	kinds := map[string]string{
		"/b": "f", "/c": "f", "/d/f": "f", "/d/e/f": "f", "/me": "f", "/s": "f", "/d/here": "f", "/tob": "f",
		"/a": "empty", "/d/e/v/w": "empty", "/d": "full", "/d/e": "full", "/d/e/v": "full",
	}
	for from, kind := range kinds {
		for to, other := range kinds {
			here, _ := place.At(f, from)
			there, _ := place.At(f, to)
			switch {
			case here.Ino == there.Ino:
				expectSame(t, f, "/", from, to, api.OK)
			case kind != "f" && below(to, from):
				expectSame(t, f, "/", from, to, api.ErrArg)
			case kind != "f" && other == "f":
				expectSame(t, f, "/", from, to, api.ErrNotDir)
			case kind == "f" && other != "f":
				expectSame(t, f, "/", from, to, api.ErrIsDir)
			case other == "full":
				expectSame(t, f, "/", from, to, api.ErrFull)
			default:
				expectByPath(t, f, "/", from, to, from, to)
				expectByPath(t, f, "/d/e", "/."+from, "../.."+to, from, to)
			}
		}
	}
}

func TestOneInode(t *testing.T) {
	f := tree()
	for _, x := range [][2]string{
		{"/b", "/b"}, {"/d/f", "/d/f"}, {"/d/f", "/d/e/f"}, {"/d/e/f", "/d/f"}, {"/s", "/t"}, {"/t", "/s"}, {"/me", "/me"}, {"/a", "/a"}, {"/d", "/d"}, {"/d/", "/d"}, {"/d", "/d/"},
		{"/s/", "/d"}, {"/d", "/s/"}, {"/toa/", "/a"}, {"/d", "/t//"}, {"/s/", "/t/"}, {"/d/s/", "/s/e"}, {"/d/e", "/r/d/here/e"}, {"/d/e/v/w", "/tow/"}, {"b", "./b"}, {"b", "d/../b"},
	} {
		expectSame(t, f, "/", x[0], x[1], api.OK)
		expectSame(t, f, "/", x[1], x[0], api.OK)
	}
	// Of two entries each may be moved over another file, and the other one stays.
	for _, from := range []string{"/d/f", "/d/e/f"} {
		expectByPath(t, f, "/", from, "/b", from, "/b")
		expectByPath(t, f, "/", from, "/me", from, "/me")
	}
	// And over each another file may be moved: the inode goes with its last entry.
	for _, l := range [][]string{{"/d/f", "/d/e/f"}, {"/d/e/f", "/d/f"}} {
		g := f
		for i, to := range l {
			from := []string{"/b", "/c"}[i]
			expectByPath(t, g, "/", from, to, from, to)
			g, _ = Rename(g, "/", from, to)
			if x := inode(g, 7); x.Links != 1-i || x.Ino != 7-7*i {
				t.Errorf("behind Rename over %q: %+v", l[:i+1], x)
			}
		}
	}
}

func TestLinksAreNotFollowed(t *testing.T) {
	f := tree()
	for _, p := range []string{"/s", "/r", "/dead", "/deads", "/deep", "/long", "/me", "/tob", "/toa", "/tow", "/dot", "/dots", "/d/here", "/d/s"} {
		expectByPath(t, f, "/", p, "/a/q", p, "/a/q")
		expectByPath(t, f, "/", p, "/b", p, "/b")
		expectByPath(t, f, "/", "/b", p, "/b", p)
		expectByPath(t, f, "/", "/d/e/up", p, "/d/e/up", p)
		expectByPath(t, f, "/", "/r/.."+p, "/r/q", p, "/q")
		expectSame(t, f, "/", "/a", p, api.ErrNotDir)
		if !strings.HasPrefix(p, "/d/") {
			expectSame(t, f, "/", "/d", p, api.ErrNotDir)
		}
		expectSame(t, f, "/", p, "/a", api.ErrIsDir)
		expectSame(t, f, "/", p, "/d", api.ErrIsDir)
	}
	// On the way they are followed.
	for from, old := range map[string]string{"/s/f": "/d/f", "/d/s/f": "/d/e/f", "/t/e/v": "/d/e/v", "/r/r/b": "/b", "/d/e/up/here/s": "/d/s", "/dots/v/w": "/d/e/v/w", "/toa/../c": "/c"} {
		for to, now := range map[string]string{"/toa/q": "/a/q", "/s/q": "/d/q", "/r/q": "/q", "/dots/q": "/d/e/q", "/dot/q": "/a/q", "/d/s/../q": "/d/q"} {
			expectByPath(t, f, "/d", from, to, old, now)
		}
	}
	expectByPath(t, f, "/", "/d/e/v", "/tow/../../z", "/d/e/v", "/d/e/z")
}

func TestLinksWithASlash(t *testing.T) {
	f := tree()
	// As from: what they lead to is moved.
	for from, old := range map[string]string{"/toa/": "/a", "/s/": "/d", "/t//": "/d", "/d/s/": "/d/e", "/tow/": "/d/e/v/w", "/r/toa/": "/a"} {
		expectByPath(t, f, "/", from, "/q", old, "/q")
		expectByPath(t, f, "/", from, "/q/", old, "/q")
		expectSame(t, f, "/", from, "/b", api.ErrNotDir)
	}
	for from, want := range map[string]api.Errno{"/r/": api.ErrBusy, "/dot/": api.ErrBusy, "/dots/": api.ErrBusy, "/d/here/": api.ErrBusy, "/d/e/up/": api.ErrBusy, "/dead/": api.ErrNone, "/deads/": api.ErrNone, "/deep/": api.ErrNone, "/me/": api.ErrLoop, "/long/": api.ErrName, "/tob/": api.ErrNotDir} {
		expectSame(t, f, "/", from, "/q", want)
		expectSame(t, f, "/", from, "/q/", want)
		// Where nothing is yet, what is moved may stand: that isn't told for to.
		if want != api.ErrNone {
			expectSame(t, f, "/", "/b", from, want)
			expectSame(t, f, "/", "/a", from, want)
		}
	}
	expectByPath(t, f, "/", "/a", "/dead/", "/a", "/d/none")
	expectByPath(t, f, "/", "/a", "/deads/", "/a", "/none")
	expectSame(t, f, "/", "/d", "/dead/", api.ErrArg)
	expectByPath(t, f, "/", "/d", "/deads/", "/d", "/none")
	expectSame(t, f, "/", "/a", "/deep/", api.ErrNone)
	// As to: what they lead to is what it is moved over.
	expectByPath(t, f, "/", "/d/e/v", "/toa/", "/d/e/v", "/a")
	expectByPath(t, f, "/", "/d", "/toa/", "/d", "/a")
	expectByPath(t, f, "/", "/a", "/tow/", "/a", "/d/e/v/w")
	expectSame(t, f, "/", "/a", "/s/", api.ErrFull)
	expectSame(t, f, "/", "/b", "/toa/", api.ErrIsDir)
	expectSame(t, f, "/", "/s", "/s/", api.ErrIsDir)
	expectSame(t, f, "/", "/s", "/toa/", api.ErrIsDir)
	expectSame(t, f, "/", "/d", "/d/s/", api.ErrArg)
}

func TestIntoItself(t *testing.T) {
	f := tree()
	for from, tos := range map[string][]string{
		"/d":     {"/d/q", "/d/q/", "/d/e", "/d/f", "/d/e/f", "/d/e/v", "/d/e/v/w", "/d/e/v/w/q", "/s/q", "/s/e/q", "/d/s/q", "/d/./q", "/a/../d/q", "/d/e/up/q", "/d/e/../q", "/r/d/q", "/dots/q", "/dots/v/w", "/tow/q", "/tow/", "/d/here", "/d/here/q", "/d/s", "/d/s/", "/t/e/up", "/d/\x00", "/d/e/v/../\x00/", "/dead/"},
		"/d/e":   {"/d/e/q", "/d/s/q", "/d/e/v/q", "/tow/q", "/tow/", "/dots/q", "/s/e/q", "/d/e/f", "/d/e/up", "/d/e/v"},
		"/d/e/v": {"/d/e/v/w", "/d/e/v/q", "/tow/", "/tow/q", "/d/s/v/q", "/d/e/v/w/q", "/dots/v/w/../q"},
		"/a":     {"/a/q", "/a/./q", "/toa/q", "/dot/q", "/a/../a/q/", "/r/a/q", "/a/\x00"},
		"/s/":    {"/s/q", "/d/q", "/t/e/f", "/d/e/up"},
	} {
		for _, to := range tos {
			expectSame(t, f, "/", from, to, api.ErrArg)
			expectSame(t, f, "/none", from, to, api.ErrArg)
		}
	}
	expectSame(t, f, "/d/e", "../e", "q", api.ErrArg)
	expectSame(t, f, "/d/e", "../../d", "v/q", api.ErrArg)
	expectSame(t, f, "/a", "../a", "q", api.ErrArg)
	// A way through itself may lead elsewhere, and a path that goes on as its name does is another one.
	expectByPath(t, f, "/", "/d", "/d/../q", "/d", "/q")
	expectByPath(t, f, "/", "/d/e", "/d/e/../q", "/d/e", "/d/q")
	expectByPath(t, f, "/", "/d/e", "/d/e/up/q", "/d/e", "/d/q")
	expectByPath(t, f, "/d/e", "../e", "../q", "/d/e", "/d/q")
	expectByPath(t, f, "/", "/d", "/dd", "/d", "/dd")
	g, _ := Rename(f, "/", "/a", "/dd")
	expectByPath(t, g, "/", "/d", "/dd/q", "/d", "/dd/q")
	// A link to a directory may be moved into that.
	expectByPath(t, f, "/", "/s", "/d/q", "/s", "/d/q")
	expectByPath(t, f, "/", "/s", "/s/q", "/s", "/d/q")
	expectByPath(t, f, "/", "/r", "/r/q", "/r", "/q")
}

func TestRootAndDots(t *testing.T) {
	f := tree()
	dots := []string{"/", "//", ".", "..", "./", "../", "/.", "/..", "a/.", "a/..", "a/./", "d/e/..", "d/e/.", "d/e/v/../", "r/", "r/.", "dot/", "dots/", "d/here/", "d/e/up/", "s/.", "../../..", strings.Repeat("/", 4095)}
	for _, p := range dots {
		for _, other := range []string{"q", "b", "a", "d", "s", "/", ".", "", "none/q", "b/q", "\x00", "d/e/q", "me/"} {
			expectSame(t, f, "/", p, other, api.ErrBusy)
		}
		for _, from := range []string{"b", "a", "d", "d/e", "d/f", "s", "me", "s/", "d/e/v/w"} {
			expectSame(t, f, "/", from, p, api.ErrBusy)
		}
	}
	for _, base := range []string{"/a", "/d", "/d/e", "/d/e/v/w"} {
		for _, p := range []string{".", "..", "./.", "../..", "../"} {
			expectSame(t, f, base, p, "/q", api.ErrBusy)
			expectSame(t, f, base, "/b", p, api.ErrBusy)
		}
	}
	for _, p := range []string{"/", ".", ".."} {
		expectSame(t, treeOf(), "/", p, "q", api.ErrBusy)
		expectSame(t, treeOf(), "/", p, p, api.ErrBusy)
	}
}

// faulty answers paths by which Seek meets an error, and the error.
func faulty() map[string]api.Errno {
	n := strings.Repeat("n", 256)
	return map[string]api.Errno{
		"": api.ErrNone,
		n:  api.ErrName, "q/" + n: api.ErrName, "b/" + n: api.ErrName, "d/" + n + "/": api.ErrName,
		strings.Repeat("./", 2047) + "qq": api.ErrName, strings.Repeat("/", 4096): api.ErrName,
		"b/q": api.ErrNotDir, "d/f/q": api.ErrNotDir, "b/.": api.ErrNotDir, "tob/q": api.ErrNotDir, "b/q/": api.ErrNotDir, "b/": api.ErrNotDir, "tob/": api.ErrNotDir, "b/..": api.ErrNotDir,
		"none/q": api.ErrNone, "none/q/": api.ErrNone, "none/.": api.ErrNone, "d/none/q": api.ErrNone, "dead/q": api.ErrNone, "deep/": api.ErrNone, "deep/q": api.ErrNone, "\x00/q": api.ErrNone,
		"me/": api.ErrLoop, "me/q": api.ErrLoop, "me/none/q": api.ErrLoop, "d/" + strings.Repeat("here/", 41): api.ErrLoop,
		"long/": api.ErrName, "long/q": api.ErrName,
	}
}

func TestPathsErrors(t *testing.T) {
	f := tree()
	for p, want := range faulty() {
		expectSame(t, f, "/", p, "q", want)
		for _, from := range []string{"c", "a", "d", "toa", "d/"} {
			expectSame(t, f, "/", from, p, want)
		}
		if p != "" {
			expectSame(t, f, "/a", "../"+p, "q", want)
			expectSame(t, f, "/a", "/c", "../"+p, want)
		}
	}
	// Of what isn't there yet in a directory that is.
	for _, p := range []string{"q", "d/q", "/d/e/q", "s/q", "q/", "q//", "dead/", "deads/", "d/\x00", "\x00", "a/q/"} {
		expectSame(t, f, "/", p, "/zzz", api.ErrNone)
		expectSame(t, f, "/", p, p, api.ErrNone)
	}
}

func TestNamesThatMayNotBe(t *testing.T) {
	f := tree()
	for _, from := range []string{"b", "d/f", "a", "d/e", "me", "s"} {
		for _, to := range []string{"\x00", "q\x00", "\x00q", "d/q\x00q", "s/\x00", "/\x00"} {
			expectSame(t, f, "/", from, to, api.ErrArg)
		}
		expectSame(t, f, "/", from, strings.Repeat("n", 256), api.ErrName)
		name := strings.Repeat("n", 255)
		expectByPath(t, f, "/", from, "d/"+name, "/"+from, "/d/"+name)
		expectByPath(t, f, "/", from, strings.Repeat("./", 1920)+name, "/"+from, "/"+name)
	}
	// A name that is only strange may be.
	for _, name := range []string{" ", "\x01", "...", "\xff", "\n", "a b", "\"", "*"} {
		expectByPath(t, f, "/", "d", name, "/d", "/"+name)
		expectByPath(t, f, "/", "d/e/f", name, "/d/e/f", "/"+name)
	}
}

func TestToWithASlash(t *testing.T) {
	f := tree()
	for _, to := range []string{"q/", "q//", "d/q/", "s/q/", "/q/", "a/q/", "deads/", "toa/q/"} {
		for _, from := range []string{"b", "d/f", "d/e/f", "s", "me", "toa", "dead"} {
			expectSame(t, f, "/", from, to, api.ErrNotDir)
		}
		for _, from := range []string{"d/e", "d/e/v", "d/e/v/w", "d/e/", "tow/"} {
			here, _ := seek.Seek(f, "/", from, false)
			there, _ := seek.Seek(f, "/", to, false)
			expectRenamed(t, f, "/", from, to, here, there)
		}
	}
	expectSame(t, f, "/", "b", "dead/", api.ErrNotDir)
	expectByPath(t, f, "/", "d", "a/", "/d", "/a")
	expectByPath(t, f, "/", "d/", "a//", "/d", "/a")
	expectByPath(t, f, "/", "a/", "d/e/v/w/", "/a", "/d/e/v/w")
	expectSame(t, f, "/", "b", "a/", api.ErrIsDir)
	expectSame(t, f, "/", "b", "d/", api.ErrIsDir)
	expectSame(t, f, "/", "a", "d/", api.ErrFull)
	expectSame(t, f, "/", "b", "c/", api.ErrNotDir)
	expectSame(t, f, "/", "a", "b/", api.ErrNotDir)
	expectSame(t, f, "/", "b/", "q", api.ErrNotDir)
}

func TestBases(t *testing.T) {
	bases := map[string]api.Errno{
		"": api.ErrArg, "d": api.ErrArg, ".": api.ErrArg, "/d/": api.ErrArg, "//d": api.ErrArg, "/d/..": api.ErrArg, "/\x00": api.ErrArg, "/" + strings.Repeat("n", 256): api.ErrArg,
		"/none": api.ErrNone, "/d/none": api.ErrNone, "/none/q": api.ErrNone,
		"/b": api.ErrNotDir, "/d/f": api.ErrNotDir, "/b/q": api.ErrNotDir, "/s": api.ErrNotDir, "/s/e": api.ErrNotDir, "/dead": api.ErrNotDir,
	}
	f := tree()
	for base, want := range bases {
		for _, p := range []string{"q", ".", "..", "q/", "b", "a", "q/q", "\x00"} {
			expectSame(t, f, base, p, "/q", want)
			expectSame(t, f, base, p, p, want)
			expectSame(t, f, base, "/c", p, want)
			expectSame(t, f, base, "/none", p, api.ErrNone)
			expectSame(t, f, base, "/", p, api.ErrBusy)
		}
		// An absolute path doesn't ask about the base.
		expectByPath(t, f, base, "/b", "/d/q", "/b", "/d/q")
		expectByPath(t, f, base, "/d", "/a", "/d", "/a")
		expectSame(t, f, base, "/d", "/d/q", api.ErrArg)
	}
	for _, base := range []string{"/", "/a", "/d", "/d/e", "/d/e/v", "/d/e/v/w"} {
		up := strings.Repeat("../", 9)
		expectByPath(t, f, base, up+"c", "/d/q", "/c", "/d/q")
		expectByPath(t, f, base, "/d/e/f", up+"b", "/d/e/f", "/b")
		now := strings.TrimSuffix(base, "/") + "/q"
		expectByPath(t, f, base, up+"c", "q", "/c", now)
	}
}

func TestErrorsInTheirOrder(t *testing.T) {
	f := tree()
	n := strings.Repeat("n", 256)
	tos := []string{"", n, "b/q", "none/q", "me/q", "a", "b", "d", "/", ".", "q/", "\x00/", "\x00", "q", "d/q", "s"}
	// What applies to from is told ahead of what applies to to.
	for _, to := range tos {
		for from, want := range faulty() {
			expectSame(t, f, "/", from, to, want)
		}
		expectSame(t, f, "/", "q", to, api.ErrNone)
		expectSame(t, f, "/", "q/", to, api.ErrNone)
		expectSame(t, f, "/", "\x00", to, api.ErrNone)
		expectSame(t, f, "/", "/", to, api.ErrBusy)
		expectSame(t, f, "/", "d/.", to, api.ErrBusy)
	}
	for _, x := range []struct {
		from, to string
		want     api.Errno
	}{
		// Both lead to one inode, ahead of all that follows; but . and .. are busy ahead of that.
		{"d", "s/", api.OK}, {"d", "d/e/..", api.ErrBusy}, {"d", "d/.", api.ErrBusy},
		// Into itself, ahead of what is there, and of the name.
		{"d", "d/f", api.ErrArg}, {"d", "d/e", api.ErrArg}, {"d/e", "d/e/v", api.ErrArg}, {"d", "d/f/q", api.ErrNotDir}, {"d", "d/none/q", api.ErrNone}, {"d", "d/.", api.ErrBusy}, {"d", "d/\x00/", api.ErrArg},
		// What is there, by its kind ahead of its entries.
		{"a", "b", api.ErrNotDir}, {"b", "d", api.ErrIsDir}, {"b", "a", api.ErrIsDir}, {"a", "d", api.ErrFull}, {"d/e", "d", api.ErrFull}, {"d/f", "d", api.ErrIsDir}, {"d/e/v/w", "d/e/v", api.ErrFull},
		// Where nothing is, the slash ahead of the name.
		{"b", "\x00/", api.ErrNotDir}, {"b", "\x00", api.ErrArg}, {"a", "\x00/", api.ErrArg}, {"a", "\x00", api.ErrArg}, {"me", "d/\x00q//", api.ErrNotDir},
		// A name that is too long is met ahead of what isn't there.
		{"b", "none/" + n, api.ErrName}, {"none/" + n, "b", api.ErrName}, {"none", n, api.ErrNone},
	} {
		expectSame(t, f, "/", x.from, x.to, x.want)
	}
	expectSame(t, f, "d", "", "", api.ErrNone)
	expectSame(t, f, "d", n, "", api.ErrName)
	expectSame(t, f, "/none", "/b", n, api.ErrName)
	expectSame(t, f, "/none", "/b", "", api.ErrNone)
}

// P14.3, and P14.1 and P14.2 in each small tree

// grow hands each tree of the lines, and of more of them, so many in all, to do.
func grow(lines []line, most int, do func(api.Fs)) {
	do(treeOf(lines...))
	if len(lines) == most {
		return
	}
	dirs := []string{""}
	var files []line
	for _, l := range lines {
		if l.kind == api.Dir {
			dirs = append(dirs, l.path)
		} else {
			files = append(files, l)
		}
	}
	name, ino := []string{"a", "b", "c"}[len(lines)], 9-len(lines)
	for _, dir := range dirs {
		p := dir + "/" + name
		more := []line{{p, api.Dir, ino, ""}, {p, api.File, ino, "abc"}}
		for _, target := range []string{"a", "b/", "/", "../b/.", "/a/c"} {
			more = append(more, line{p, api.Sym, ino, target})
		}
		for _, l := range files {
			more = append(more, line{p, l.kind, l.ino, l.data})
		}
		for _, l := range more {
			grow(append(slices.Clone(lines), l), most, do)
		}
	}
}

// paths answers all texts of at most so many of the parts, with a slash between two.
func paths(most int, parts ...string) []string {
	all, last := []string(nil), []string(nil)
	for i := range most {
		longer := slices.Clone(parts)
		if i > 0 {
			longer = nil
			for _, p := range last {
				for _, part := range parts {
					longer = append(longer, p+"/"+part)
				}
			}
		}
		all, last = append(all, longer...), longer
	}
	return all
}

// expectEach asks Rename of each of the paths to each of them for what the chapter's words ask, and answers how often the tree was changed.
func expectEach(t *testing.T, f api.Fs, all []string) int {
	t.Helper()
	changed := 0
	before := copied(f)
	for _, from := range all {
		for _, to := range all {
			want, wantErr := renamed(f, "/", from, to)
			got, e := Rename(f, "/", from, to)
			if e != wantErr || !table.Same(got, want) {
				t.Fatalf("Rename of %q to %q in %+v: %+v, %d, not %+v, %d", from, to, f, got, e, want, wantErr)
			}
			if e == api.OK && !table.Same(got, before) {
				expectSound(t, got)
				changed++
			}
		}
	}
	if !alike(f, before) {
		t.Fatalf("handed in: %+v, not %+v", f, before)
	}
	return changed
}

func TestEachSmallTree(t *testing.T) {
	// An empty part makes a slash at the beginning or the end, or two of them.
	all := paths(2, "a", "b", "c", "")
	trees, changed := 0, 0
	grow(nil, 3, func(f api.Fs) {
		trees++
		expectSound(t, f)
		changed += expectEach(t, f, all)
	})
	if trees < 750 || changed < 20000 {
		t.Errorf("%d changed in %d trees", changed, trees)
	}
}

func TestLongerPathsInEachSmallTree(t *testing.T) {
	all := append(paths(2, "a", "b", "c", ".", "..", "", "c\x00"), "a/b/c", "b/a/c", "a/b/", "/a/b", "a/b/..", "b/../c")
	trees, changed := 0, 0
	grow(nil, 2, func(f api.Fs) {
		trees++
		changed += expectEach(t, f, all)
	})
	if trees < 70 || changed < 5000 {
		t.Errorf("%d changed in %d trees", changed, trees)
	}
}

func TestInsideInEachSmallTree(t *testing.T) {
	grow(nil, 3, func(f api.Fs) {
		for _, x := range f.Inodes {
			for _, y := range f.Inodes {
				if x.Kind == api.Dir && y.Kind == api.Dir && Inside(f, x.Ino, y.Ino) != lies(f, x.Ino, y.Ino) {
					t.Fatalf("Inside of %d in %d in %+v: %t", x.Ino, y.Ino, f, Inside(f, x.Ino, y.Ino))
				}
			}
		}
	})
}

func TestThereAndBack(t *testing.T) {
	f := tree()
	count := 0
	for _, from := range walk.List(f)[1:] {
		for _, dir := range walk.List(f) {
			if !isDir(f, dir.Ino) {
				continue
			}
			to := strings.TrimSuffix(dir.Path, "/") + "/q"
			got, e := Rename(f, "/", from.Path, to)
			if e != api.OK {
				continue
			}
			if back, e := Rename(got, "/", to, from.Path); e != api.OK || !alike(back, f) {
				t.Errorf("%q to %q and back: %+v, %d, not %+v", from.Path, to, back, e, f)
			}
			count++
		}
	}
	if count < 130 {
		t.Errorf("%d renames", count)
	}
}

func TestOneRenameBehindTheOther(t *testing.T) {
	f := tree()
	for _, x := range []struct{ from, to, old, now string }{
		{"d/e", "e", "/d/e", "/e"},
		{"d", "e/v/w/d", "/d", "/e/v/w/d"},
		{"e/v/w/d/f", "f", "/e/v/w/d/f", "/f"},
		{"e/v", "a", "/e/v", "/a"},
		{"a/w/d", "d", "/a/w/d", "/d"},
		{"a/w", "d/e", "/a/w", "/d/e"},
		{"s", "b", "/s", "/b"},
		{"b", "t2", "/b", "/t2"},
		{"t2/e", "a/", "/d/e", "/a"},
		{"e", "r/a/e/", "/e", "/a/e"},
		{"f", "c", "/f", "/c"},
		{"c", "a/e/up/q", "/c", "/a/q"},
		{"toa/e/f", "me", "/a/e/f", "/me"},
	} {
		expectByPath(t, f, "/", x.from, x.to, x.old, x.now)
		f, _ = Rename(f, "/", x.from, x.to)
		expectSound(t, f)
	}
	var left []string
	for _, seen := range walk.List(f) {
		left = append(left, seen.Path)
	}
	want := []string{"/", "/a", "/a/e", "/a/e/up", "/a/q", "/d", "/d/here", "/d/s", "/dead", "/deads", "/deep", "/dot", "/dots", "/long", "/me", "/r", "/t", "/t2", "/toa", "/tob", "/tow"}
	if !slices.Equal(left, want) || f.Next != 30 || inode(f, 7).Links != 2 || inode(f, 10).Links != 2 {
		t.Errorf("left: %q; %+v", left, f)
	}
}

func TestNoRoomIsAskedFor(t *testing.T) {
	f := tree()
	if f.MaxInodes != len(f.Inodes) || f.MaxBytes != 11 {
		t.Fatalf("there is room for %d inodes and %d bytes", f.MaxInodes, f.MaxBytes)
	}
	expectByPath(t, f, "/", "b", "d/q", "/b", "/d/q")
	expectByPath(t, f, "/", "b", "c", "/b", "/c")
}

// P14.4

// roomy answers the file system in lists of its own, each with room behind it that isn't empty.
func roomy(f api.Fs) api.Fs {
	behind := api.Entry{Name: "zzz", Ino: 77}
	f = copied(f)
	for i, x := range f.Inodes {
		f.Inodes[i].Entries = append(x.Entries, behind, behind, behind)[:len(x.Entries)]
	}
	last := api.Inode{Ino: 77, Kind: api.File, Links: 8, Data: "behind"}
	f.Inodes = append(f.Inodes, last, last, last)[:len(f.Inodes)]
	return f
}

// wholly answers the file system with the room behind its lists laid open.
func wholly(f api.Fs) api.Fs {
	f.Inodes = slices.Clone(f.Inodes[:cap(f.Inodes)])
	for i, x := range f.Inodes {
		f.Inodes[i].Entries = x.Entries[:cap(x.Entries)]
	}
	return copied(f)
}

func TestHandedInStays(t *testing.T) {
	f := roomy(tree())
	before := wholly(f)
	for _, from := range entries(f) {
		for _, dir := range dirs() {
			Inside(f, dir, from.Dir)
			if !isDir(f, from.Ino) || !lies(f, dir, from.Ino) {
				Move(f, from, api.Spotted{Dir: dir, Name: "zzz"})
			}
		}
	}
	all := paths(2, "d", "e", "s", "r", "q", "zzz", "a", "b", "c", "dead", "v", ".", "..", "", "\x00")
	for _, base := range []string{"/", "/d", "/d/e", "/b", "/none", "d"} {
		for _, p := range all {
			for _, from := range []string{"/b", "/d/e", "/d", "c", "a"} {
				if got, e := Rename(f, base, from, p); e == api.OK {
					// What is made of the new one may not show in the old one either.
					Rename(got, base, p, from)
				}
				Rename(f, base, p, from)
			}
		}
	}
	if after := wholly(f); !reflect.DeepEqual(after, before) {
		t.Fatalf("handed in: %+v, not %+v", after, before)
	}
}

func TestWhatWasAnsweredStays(t *testing.T) {
	// Two that are made of one may not write into each other, nor into what they are made of.
	f, _ := Rename(tree(), "/", "b", "/d/q")
	before := copied(f)
	first, e := Rename(f, "/", "d/q", "d/A")
	second, e2 := Rename(f, "/d", "q", "zzz")
	third, e3 := Rename(f, "/", "d/e", "a")
	expectMoved(t, "the first", f, first, e, api.Spotted{Dir: 3, Name: "q", Ino: 4}, api.Spotted{Dir: 3, Name: "A"})
	expectMoved(t, "the second", f, second, e2, api.Spotted{Dir: 3, Name: "q", Ino: 4}, api.Spotted{Dir: 3, Name: "zzz"})
	expectMoved(t, "the third", f, third, e3, api.Spotted{Dir: 3, Name: "e", Ino: 12}, api.Spotted{Dir: 1, Name: "a", Ino: 9})
	if !alike(f, before) {
		t.Errorf("what they are made of: %+v, not %+v", f, before)
	}
}

func TestRoomIsNotGoneThrough(t *testing.T) {
	f := roomy(tree())
	expectByPath(t, f, "/", "b", "zzz", "/b", "/zzz")
	expectByPath(t, f, "/", "d", "a/zzz", "/d", "/a/zzz")
	expectSame(t, f, "/", "zzz", "q", api.ErrNone)
	expectByPath(t, f, "/", "d", "a", "/d", "/a")
}

// shares tells whether two texts have memory in common.
func shares(a, b string) bool {
	if a == "" || b == "" {
		return false
	}
	x, y := uintptr(unsafe.Pointer(unsafe.StringData(a))), uintptr(unsafe.Pointer(unsafe.StringData(b)))
	return x < y+uintptr(len(b)) && y < x+uintptr(len(a))
}

func TestTextsAreNotKept(t *testing.T) {
	f := tree()
	name, p := strings.Repeat("q", 9), "/d/"+strings.Repeat("q", 9)
	file, _ := Rename(f, "/", "/b", p)
	dir, _ := Rename(f, "/", "/a", p)
	over, _ := Rename(f, "/", "/d", "/a")
	for _, got := range []api.Fs{Move(f, api.Spotted{Dir: 1, Name: "b", Ino: 4}, api.Spotted{Dir: 3, Name: name}), file, dir, over} {
		for _, x := range got.Inodes {
			if y := inode(f, x.Ino); shares(x.Data, y.Data) {
				t.Errorf("the data's memory is kept in %+v", x)
			}
			for _, e := range x.Entries {
				if shares(e.Name, name) || shares(e.Name, p) {
					t.Errorf("the name's memory is kept in the entry %q", e.Name)
				}
			}
		}
	}
}

// The rules that hold everywhere

// brokenTrees answers file systems that aren't sound.
func brokenTrees() []api.Fs {
	broken := []api.Fs{{}, tree()}
	for _, change := range []func(f *api.Fs){
		func(f *api.Fs) { f.Inodes = f.Inodes[1:] },
		func(f *api.Fs) { slices.Reverse(f.Inodes) },
		func(f *api.Fs) { slices.Reverse(f.Inodes[0].Entries) },
		func(f *api.Fs) { f.Inodes[0].Kind = api.File },
		func(f *api.Fs) { f.Inodes[0].Entries[1].Ino = 99 },
		func(f *api.Fs) { f.Inodes[0].Entries[1].Ino = -1 },
		func(f *api.Fs) { f.Inodes[2].Links = math.MinInt },
		func(f *api.Fs) { f.Inodes[2].Links = 0 },
		// Directories that are each other's Parent, one that is its own, and such whose Parent is none.
		func(f *api.Fs) { f.Inodes[1].Parent = 12 },
		func(f *api.Fs) { f.Inodes[1].Parent = 3 },
		func(f *api.Fs) { f.Inodes[1].Parent = 99 },
		func(f *api.Fs) { f.Inodes[0].Parent = 12 },
		func(f *api.Fs) { f.Inodes[1].Parent = 4 },
		func(f *api.Fs) { f.MaxInodes, f.MaxBytes, f.Next = math.MinInt, math.MinInt, math.MinInt },
	} {
		f := copied(tree())
		change(&f)
		broken = append(broken, f)
	}
	return broken
}

func TestWhateverIsHandedInIsAnswered(t *testing.T) {
	// Of such places and file systems nothing is promised but that the calls end, and leave what is handed in.
	numbers := []int{math.MinInt, -1, 0, 1, 3, 4, 9, 12, 99, math.MaxInt}
	for _, f := range brokenTrees() {
		before := copied(f)
		for _, x := range numbers {
			for _, y := range numbers {
				Inside(f, x, y)
				for _, z := range []int{0, 1, 4, 12, 99} {
					for _, name := range []string{"", "a", "q", "\x00", "d/f"} {
						Move(f, api.Spotted{Dir: x, Name: "d", Ino: y}, api.Spotted{Dir: z, Name: name, Ino: x})
						Move(f, api.Spotted{Dir: z, Name: name, Ino: x}, api.Spotted{Dir: y, Name: "e", Ino: z})
					}
				}
			}
		}
		all := append(paths(2, "a", "b", "d", "e", "q", "s", "me", "..", "", "\x00", "\xff"), strings.Repeat("/", 5000))
		for _, base := range []string{"", "/", "/d", "/s", "\xff"} {
			for _, p := range all {
				for _, other := range []string{"/b", "d", "/d/e", "q", p} {
					Rename(f, base, p, other)
					Rename(f, base, other, p)
				}
			}
		}
		if !alike(f, before) {
			t.Errorf("handed in: %+v, not %+v", f, before)
		}
	}
}
