package drop

import (
	"cmp"
	"fmt"
	"math"
	"reflect"
	"slices"
	"strings"
	"testing"
	"unsafe"

	"drayman/api"
	"drayman/place"
	"drayman/seek"
	"drayman/sound"
	"drayman/walk"
)

// line is an entry of a tree: where it stands, and the inode that it names, whose Data are of a file or a link alone.
type line struct {
	path string
	kind int
	ino  int
	data string
}

// treeOf answers the file system of these entries, a directory's own ahead of those in it, with room for no inode and no byte more.
func treeOf(lines ...line) api.Fs {
	inodes := map[int]*api.Inode{1: {Ino: 1, Kind: api.Dir, Parent: 1}}
	dirs := map[string]*api.Inode{"": inodes[1]}
	f := api.Fs{Next: 2}
	for _, l := range lines {
		cut := strings.LastIndexByte(l.path, '/')
		dir := dirs[l.path[:cut]]
		dir.Entries = append(dir.Entries, api.Entry{Name: l.path[cut+1:], Ino: l.ino})
		if inodes[l.ino] == nil {
			inodes[l.ino] = &api.Inode{Ino: l.ino, Kind: l.kind, Data: l.data}
			if l.kind == api.File {
				f.MaxBytes += len(l.data)
			}
		}
		inodes[l.ino].Links++
		if l.kind == api.Dir {
			inodes[l.ino].Parent = dir.Ino
			dirs[l.path] = inodes[l.ino]
		}
		f.Next = max(f.Next, l.ino+1)
	}
	for _, x := range inodes {
		slices.SortFunc(x.Entries, byName)
		f.Inodes = append(f.Inodes, *x)
	}
	slices.SortFunc(f.Inodes, func(x, y api.Inode) int { return cmp.Compare(x.Ino, y.Ino) })
	f.MaxInodes = len(f.Inodes)
	return f
}

func byName(a, b api.Entry) int { return cmp.Compare(a.Name, b.Name) }

// tree answers a file system of directories in one another, two of them without entries, a file and a link of two names, and links: to directories, to a file, to nothing, to itself, to a path with dots at its end.
func tree() api.Fs {
	f := treeOf(
		line{"/a", api.Dir, 9, ""},
		line{"/b", api.File, 4, "abc"},
		line{"/d", api.Dir, 3, ""},
		line{"/d/e", api.Dir, 12, ""},
		line{"/d/e/f", api.File, 7, "\x00\xffdata"},
		line{"/d/e/up", api.Sym, 20, ".."},
		line{"/d/e/v", api.Dir, 22, ""},
		line{"/d/f", api.File, 7, "\x00\xffdata"},
		line{"/d/here", api.Sym, 19, "."},
		line{"/d/s", api.Sym, 8, "/d/e"},
		line{"/dead", api.Sym, 13, "d/none"},
		line{"/deads", api.Sym, 14, "none/"},
		line{"/deep", api.Sym, 15, "none/x"},
		line{"/dot", api.Sym, 23, "a/."},
		line{"/dots", api.Sym, 24, "d/e/v/.."},
		line{"/long", api.Sym, 16, strings.Repeat("n", 256)},
		line{"/me", api.Sym, 17, "me"},
		line{"/r", api.Sym, 11, "/"},
		line{"/s", api.Sym, 10, "d/"},
		line{"/t", api.Sym, 10, "d/"},
		line{"/toa", api.Sym, 25, "a"},
		line{"/tof", api.Sym, 21, "b"},
		line{"/tov", api.Sym, 26, "s/e/v/"},
	)
	f.Next = 30
	return f
}

// copied answers the file system in lists of its own, those that are empty as nil.
func copied(f api.Fs) api.Fs {
	var inodes []api.Inode
	for _, x := range f.Inodes {
		x.Entries = append([]api.Entry(nil), x.Entries...)
		inodes = append(inodes, x)
	}
	f.Inodes = inodes
	return f
}

// alike tells whether two file systems read alike.
func alike(f, g api.Fs) bool { return reflect.DeepEqual(copied(f), copied(g)) }

// inode answers the file system's inode of that number; none, if there is none.
func inode(f api.Fs, ino int) api.Inode {
	for _, x := range f.Inodes {
		if x.Ino == ino {
			return x
		}
	}
	return api.Inode{}
}

// taken answers, of the chapter's words alone, the file system from which the entry there is taken away.
func taken(f api.Fs, at api.Spotted) api.Fs {
	f = copied(f)
	var stay []api.Inode
	for _, x := range f.Inodes {
		if x.Ino == at.Dir {
			x.Entries = slices.DeleteFunc(x.Entries, func(e api.Entry) bool { return e.Name == at.Name })
		}
		if x.Ino == at.Ino {
			x.Links--
		}
		if x.Ino != at.Ino || x.Links != 0 {
			stay = append(stay, x)
		}
	}
	f.Inodes = stay
	return f
}

// given answers, of the chapter's words alone, the file system in which an entry of that inode is given there.
func given(f api.Fs, at api.Spotted, ino int) api.Fs {
	f = copied(f)
	for i, x := range f.Inodes {
		if x.Ino == at.Dir {
			f.Inodes[i].Entries = append(x.Entries, api.Entry{Name: at.Name, Ino: ino})
			slices.SortFunc(f.Inodes[i].Entries, byName)
		}
		if x.Ino == ino {
			f.Inodes[i].Links++
		}
	}
	return f
}

// wrongName tells, of the document's words alone, whether the name may not be.
func wrongName(name string) bool {
	return name == "" || name == "." || name == ".." || len(name) > 255 || strings.ContainsAny(name, "/\x00")
}

// linked answers, of the chapter's words alone, what Link does.
func linked(f api.Fs, base, from, to string) (api.Fs, api.Errno) {
	at, e := seek.Seek(f, base, from, false)
	if e != api.OK {
		return f, e
	}
	if at.Ino == 0 {
		return f, api.ErrNone
	}
	if inode(f, at.Ino).Kind == api.Dir {
		return f, api.ErrPerm
	}
	there, e := seek.Seek(f, base, to, false)
	if e != api.OK {
		return f, e
	}
	if there.Ino != 0 {
		return f, api.ErrThere
	}
	if strings.HasSuffix(to, "/") {
		return f, api.ErrNone
	}
	if wrongName(there.Name) {
		return f, api.ErrArg
	}
	return given(f, there, at.Ino), api.OK
}

// unlinked answers, of the chapter's words alone, what Unlink does.
func unlinked(f api.Fs, base, p string) (api.Fs, api.Errno) {
	at, e := seek.Seek(f, base, p, false)
	if e != api.OK {
		return f, e
	}
	if at.Ino == 0 {
		return f, api.ErrNone
	}
	if inode(f, at.Ino).Kind == api.Dir {
		return f, api.ErrIsDir
	}
	return taken(f, at), api.OK
}

// removed answers, of the chapter's words alone, what Rmdir does.
func removed(f api.Fs, base, p string) (api.Fs, api.Errno) {
	at, e := seek.Seek(f, base, p, false)
	if e != api.OK {
		return f, e
	}
	if at.Ino == 0 {
		return f, api.ErrNone
	}
	if inode(f, at.Ino).Kind != api.Dir {
		return f, api.ErrNotDir
	}
	if at.Ino == 1 {
		return f, api.ErrBusy
	}
	if at.Name == "" {
		return f, api.ErrArg
	}
	if len(inode(f, at.Ino).Entries) != 0 {
		return f, api.ErrFull
	}
	return taken(f, at), api.OK
}

// expectSound asks whether the file system is sound.
func expectSound(t *testing.T, f api.Fs) {
	t.Helper()
	if n := sound.Check(f); n != 0 {
		t.Fatalf("%+v isn't sound: rule %d", f, n)
	}
}

// expectOneMore asks whether the walk of more is that of less, with an entry at the directory's name more, of the number.
func expectOneMore(t *testing.T, what string, less, more api.Fs, at api.Spotted, ino int) {
	t.Helper()
	above, _ := walk.PathOf(less, at.Dir)
	added := api.Seen{Path: strings.TrimSuffix(above, "/") + "/" + at.Name, Ino: ino}
	steps := walk.List(more)
	i := slices.Index(steps, added)
	if i < 0 || !slices.Equal(slices.Delete(steps, i, i+1), walk.List(less)) {
		t.Errorf("%s: beside %v the walk with %v more is %v", what, walk.List(less), added, walk.List(more))
	}
}

// expectTaken asks whether got is f without the entry there, is sound, and is gone through as f is, but for that.
func expectTaken(t *testing.T, what string, f, got api.Fs, e api.Errno, at api.Spotted) {
	t.Helper()
	if want := taken(f, at); e != api.OK || !alike(got, want) {
		t.Errorf("%s: %+v, %d, not %+v", what, got, e, want)
		return
	}
	expectSound(t, got)
	expectOneMore(t, what, got, f, at, at.Ino)
}

// expectGiven asks whether got is f with an entry of the inode there, is sound, and is gone through as f is, but for that.
func expectGiven(t *testing.T, what string, f, got api.Fs, e api.Errno, at api.Spotted, ino int) {
	t.Helper()
	if want := given(f, at, ino); e != api.OK || !alike(got, want) {
		t.Errorf("%s: %+v, %d, not %+v", what, got, e, want)
		return
	}
	expectSound(t, got)
	expectOneMore(t, what, f, got, at, ino)
}

// expectLinked asks Link for an entry of the inode at the directory's name, found by the path.
func expectLinked(t *testing.T, f api.Fs, base, from, to string, ino, dir int, name string) {
	t.Helper()
	got, e := Link(f, base, from, to)
	what := fmt.Sprintf("Link of %.60q to %.60q from %.60q", from, to, base)
	expectGiven(t, what, f, got, e, api.Spotted{Dir: dir, Name: name}, ino)
	if at, e := seek.Seek(got, base, to, false); at != (api.Spotted{Dir: dir, Name: name, Ino: ino}) || e != api.OK {
		t.Errorf("%s: the path leads to %+v, %d", what, at, e)
	}
}

// expectLinkErr asks Link for the error, and for the file system as it was.
func expectLinkErr(t *testing.T, f api.Fs, base, from, to string, want api.Errno) {
	t.Helper()
	if got, e := Link(f, base, from, to); e != want || !alike(got, f) {
		t.Errorf("Link of %.60q to %.60q from %.60q: %+v, %d, not as it was, %d", from, to, base, got, e, want)
	}
}

// expectUnlinked asks Unlink for the file system without the entry there.
func expectUnlinked(t *testing.T, f api.Fs, base, p string, at api.Spotted) {
	t.Helper()
	got, e := Unlink(f, base, p)
	expectTaken(t, fmt.Sprintf("Unlink of %.60q from %.60q", p, base), f, got, e, at)
}

// expectUnlinkErr asks Unlink for the error, and for the file system as it was.
func expectUnlinkErr(t *testing.T, f api.Fs, base, p string, want api.Errno) {
	t.Helper()
	if got, e := Unlink(f, base, p); e != want || !alike(got, f) {
		t.Errorf("Unlink of %.60q from %.60q: %+v, %d, not as it was, %d", p, base, got, e, want)
	}
}

// expectRemoved asks Rmdir for the file system without the directory there.
func expectRemoved(t *testing.T, f api.Fs, base, p string, at api.Spotted) {
	t.Helper()
	got, e := Rmdir(f, base, p)
	expectTaken(t, fmt.Sprintf("Rmdir of %.60q from %.60q", p, base), f, got, e, at)
}

// expectRmdirErr asks Rmdir for the error, and for the file system as it was.
func expectRmdirErr(t *testing.T, f api.Fs, base, p string, want api.Errno) {
	t.Helper()
	if got, e := Rmdir(f, base, p); e != want || !alike(got, f) {
		t.Errorf("Rmdir of %.60q from %.60q: %+v, %d, not as it was, %d", p, base, got, e, want)
	}
}

// expectErrs asks each of the three calls for the error of the path, Link as that of either of its paths.
func expectErrs(t *testing.T, f api.Fs, base, p string, want api.Errno) {
	t.Helper()
	expectLinkErr(t, f, base, p, "/q", want)
	expectLinkErr(t, f, base, "/b", p, want)
	expectUnlinkErr(t, f, base, p, want)
	expectRmdirErr(t, f, base, p, want)
}

// P12.1

// free answers names that aren't in the tree: ahead of, between and behind those that are there.
func free() []string {
	return []string{"A", " ", "\x01", "...", "aa", "c", "dd", "eq", "g", "none", "sa", "zzz", "é", "\xff", strings.Repeat("n", 255)}
}

// dirs answers the numbers of the tree's directories.
func dirs() []int { return []int{1, 3, 9, 12, 22} }

func TestName(t *testing.T) {
	f := tree()
	expectSound(t, f)
	for _, x := range f.Inodes {
		if x.Kind == api.Dir {
			continue
		}
		for _, dir := range dirs() {
			for _, name := range free() {
				at := api.Spotted{Dir: dir, Name: name}
				got := Name(f, at, x.Ino)
				what := fmt.Sprintf("Name of %d at %.60q", x.Ino, fmt.Sprint(at))
				expectGiven(t, what, f, got, api.OK, at, x.Ino)
				// What was given and is taken away again leaves all as it was.
				if back := Unname(got, api.Spotted{Dir: dir, Name: name, Ino: x.Ino}); !alike(back, f) {
					t.Errorf("%s, and Unname: %+v, not %+v", what, back, f)
				}
			}
		}
	}
}

func TestUnname(t *testing.T) {
	f := tree()
	count := 0
	for _, seen := range walk.List(f) {
		at, e := place.At(f, seen.Path)
		x := inode(f, at.Ino)
		if e != api.OK || at.Name == "" || len(x.Entries) > 0 {
			continue
		}
		got := Unname(f, at)
		what := fmt.Sprintf("Unname of %q", seen.Path)
		expectTaken(t, what, f, got, api.OK, at)
		if y := inode(got, at.Ino); x.Links == 1 && y.Ino != 0 || x.Links > 1 && y.Links != x.Links-1 {
			t.Errorf("%s: of %+v there is %+v", what, x, y)
		}
		if x.Links > 1 {
			// What was taken away and is given again leaves all as it was.
			if back := Name(got, api.Spotted{Dir: at.Dir, Name: at.Name}, at.Ino); !alike(back, f) {
				t.Errorf("%s, and Name: %+v, not %+v", what, back, f)
			}
		}
		count++
	}
	if count != 21 {
		t.Errorf("%d entries were taken away", count)
	}
}

func TestWrittenOut(t *testing.T) {
	f := api.Fs{MaxInodes: 3, MaxBytes: 3, Next: 8, Inodes: []api.Inode{
		{Ino: 1, Kind: api.Dir, Parent: 1, Entries: []api.Entry{{Name: "d", Ino: 2}, {Name: "k", Ino: 5}}},
		{Ino: 2, Kind: api.Dir, Links: 1, Parent: 1},
		{Ino: 5, Kind: api.File, Links: 1, Data: "abc"},
	}}
	two := api.Fs{MaxInodes: 3, MaxBytes: 3, Next: 8, Inodes: []api.Inode{
		{Ino: 1, Kind: api.Dir, Parent: 1, Entries: []api.Entry{{Name: "d", Ino: 2}, {Name: "k", Ino: 5}}},
		{Ino: 2, Kind: api.Dir, Links: 1, Parent: 1, Entries: []api.Entry{{Name: "m", Ino: 5}}},
		{Ino: 5, Kind: api.File, Links: 2, Data: "abc"},
	}}
	none := api.Fs{MaxInodes: 3, MaxBytes: 3, Next: 8, Inodes: []api.Inode{
		{Ino: 1, Kind: api.Dir, Parent: 1, Entries: []api.Entry{{Name: "d", Ino: 2}}},
		{Ino: 2, Kind: api.Dir, Links: 1, Parent: 1},
	}}
	least := api.Fs{MaxInodes: 3, MaxBytes: 3, Next: 8, Inodes: []api.Inode{{Ino: 1, Kind: api.Dir, Parent: 1}}}
	if got := Name(f, api.Spotted{Dir: 2, Name: "m"}, 5); !alike(got, two) {
		t.Errorf("Name: %+v, not %+v", got, two)
	}
	if got, e := Link(f, "/d", "../k", "m"); e != api.OK || !alike(got, two) {
		t.Errorf("Link: %+v, %d, not %+v", got, e, two)
	}
	if got, e := Unlink(two, "/d", "m"); e != api.OK || !alike(got, f) {
		t.Errorf("Unlink: %+v, %d, not %+v", got, e, f)
	}
	if got := Unname(f, api.Spotted{Dir: 1, Name: "k", Ino: 5}); !alike(got, none) {
		t.Errorf("Unname: %+v, not %+v", got, none)
	}
	if got, e := Rmdir(none, "/", "d"); e != api.OK || !alike(got, least) {
		t.Errorf("Rmdir: %+v, %d, not %+v", got, e, least)
	}
}

// orders hands each order of the numbers below n to do.
func orders(n int, do func([]int)) {
	if n == 0 {
		do(nil)
		return
	}
	orders(n-1, func(l []int) {
		for i := range n {
			do(slices.Insert(slices.Clone(l), i, n-1))
		}
	})
}

func TestEntriesTakenInEachOrder(t *testing.T) {
	for _, kind := range []int{api.File, api.Sym} {
		lines := []line{
			{"/d", api.Dir, 3, ""}, {"/d/e", api.Dir, 4, ""},
			{"/b", kind, 2, "abc"}, {"/d/b", kind, 2, "abc"}, {"/d/c", kind, 2, "abc"}, {"/d/e/b", kind, 2, "abc"},
		}
		count := 0
		orders(4, func(l []int) {
			f := treeOf(lines...)
			for i, n := range l {
				p := lines[n+2].path
				at, _ := place.At(f, p)
				expectUnlinked(t, f, "/", p, at)
				f, _ = Unlink(f, "/", p)
				if x := inode(f, 2); x.Links != 3-i || (x.Ino == 0) != (i == 3) {
					t.Errorf("behind %v of %v: %+v", l[:i+1], l, x)
				}
				expectUnlinkErr(t, f, "/", p, api.ErrNone)
			}
			if want := treeOf(lines[:2]...); !reflect.DeepEqual(walk.List(f), walk.List(want)) || f.Next != 5 {
				t.Errorf("behind %v: %+v", l, f)
			}
			count++
		})
		if count != 24 {
			t.Errorf("%d orders", count)
		}
	}
}

// P12.2

func TestChaptersExamples(t *testing.T) {
	f := treeOf(line{"/d", api.Dir, 2, ""}, line{"/k", api.File, 3, "abc"}, line{"/m", api.File, 3, "abc"})
	expectRmdirErr(t, f, "/", "/", api.ErrBusy)
	expectRmdirErr(t, f, "/", "d/.", api.ErrArg)
	got, e := Unlink(f, "/", "k")
	if x, _ := place.Get(got, "/m"); e != api.OK || x.Links != 1 || x.Data != "abc" {
		t.Errorf("Unlink of a file with two entries: %+v, %d", x, e)
	}
}

func TestLinkByPaths(t *testing.T) {
	f := tree()
	for _, name := range free() {
		expectLinked(t, f, "/", "b", name, 4, 1, name)
		expectLinked(t, f, "/", "/b", "/"+name, 4, 1, name)
		expectLinked(t, f, "/d", "../b", name, 4, 3, name)
		expectLinked(t, f, "/d", "f", "e/"+name, 7, 12, name)
		expectLinked(t, f, "/d/e", "up", "/a/"+name, 20, 9, name)
		expectLinked(t, f, "/a", "/dead", "../d/e/v/"+name, 13, 22, name)
	}
	for to, dir := range map[string]int{
		"./q": 12, "../q": 3, "../../q": 1, "../../../q": 1, "v/../q": 12, "..//../a//q": 9, "up/q": 3, "up/e/up/here/q": 3,
		"/s/q": 3, "/r/q": 1, "/d/s/q": 12, "/r/t/here/s/q": 12, "/toa/q": 9, "/tov/q": 22, "/dots/q": 12, "/dot/q": 9, "/s/../q": 1, "/d/s/../q": 3,
	} {
		for from, ino := range map[string]int{
			"f": 7, "./f": 7, "up/f": 7, "../../b": 4, "/b": 4, "/r/b": 4, "/d/s/f": 7, "up": 20, "/me": 17, "/s": 10, "/r/t": 10, "/deads": 14, "/r/tof": 21, "../here": 19, "/long": 16,
		} {
			expectLinked(t, f, "/d/e", from, to, ino, dir, "q")
		}
	}
}

func TestSecondAndThirdEntries(t *testing.T) {
	for _, x := range []struct {
		from  string
		ino   int
		links int
	}{{"/b", 4, 1}, {"/tof", 21, 1}, {"/me", 17, 1}, {"/d/f", 7, 2}, {"/t", 10, 2}} {
		f, p := tree(), x.from
		for i, to := range []string{"/q", "/d/e/q", "/a/zzz", "/A", "/a/c"} {
			at, _ := place.At(f, to)
			expectLinked(t, f, "/none", p, to, x.ino, at.Dir, at.Name)
			f, _ = Link(f, "/none", p, to)
			if y, e := place.Get(f, to); y.Links != x.links+i+1 || y.Ino != x.ino || e != api.OK || f.Next != 30 {
				t.Errorf("%q behind %d calls: %+v, %d; the next one is %d", to, i+1, y, e, f.Next)
			}
			// The next entry is given by way of this one.
			p = to
		}
	}
}

func TestLinksAreNotFollowed(t *testing.T) {
	f := tree()
	for p, ino := range map[string]int{"s": 10, "r": 11, "dead": 13, "deads": 14, "deep": 15, "long": 16, "me": 17, "tof": 21, "toa": 25, "tov": 26, "dot": 23, "dots": 24} {
		at := api.Spotted{Dir: 1, Name: p, Ino: ino}
		expectLinked(t, f, "/", p, "d/q", ino, 3, "q")
		expectUnlinked(t, f, "/", p, at)
		expectUnlinked(t, f, "/none", "/r/"+p, at)
		expectRmdirErr(t, f, "/", p, api.ErrNotDir)
		expectLinkErr(t, f, "/", "b", p, api.ErrThere)
		got, _ := Unlink(f, "/", p)
		for _, to := range []string{"/b", "/d", "/d/e/v", "/a"} {
			if _, e := place.Get(got, to); e != api.OK {
				t.Errorf("behind Unlink of %q %q is gone: %d", p, to, e)
			}
		}
	}
}

func TestUnlinkByPaths(t *testing.T) {
	f := tree()
	for p, at := range map[string]api.Spotted{
		"f": {Dir: 12, Name: "f", Ino: 7}, "../f": {Dir: 3, Name: "f", Ino: 7}, "up/f": {Dir: 3, Name: "f", Ino: 7}, "/d/s/f": {Dir: 12, Name: "f", Ino: 7}, "./v/../f": {Dir: 12, Name: "f", Ino: 7},
		"../../b": {Dir: 1, Name: "b", Ino: 4}, "/r/r/b": {Dir: 1, Name: "b", Ino: 4}, "//b": {Dir: 1, Name: "b", Ino: 4},
		"up": {Dir: 12, Name: "up", Ino: 20}, "up/here": {Dir: 3, Name: "here", Ino: 19}, "up/s": {Dir: 3, Name: "s", Ino: 8}, "/s/s": {Dir: 3, Name: "s", Ino: 8}, "/t": {Dir: 1, Name: "t", Ino: 10},
	} {
		expectUnlinked(t, f, "/d/e", p, at)
	}
	for _, p := range []string{".", "..", "/", "//", "v", "v/", "v/.", "/a", "/a/", "/d", "/d//", "/s/", "/r/", "/r/.", "up/", "/d/s/", "/toa/", "/tov/", "/dot/", "/dots/", "../..", "../../.."} {
		expectUnlinkErr(t, f, "/d/e", p, api.ErrIsDir)
		expectLinkErr(t, f, "/d/e", p, "q", api.ErrPerm)
		expectLinkErr(t, f, "/d/e", "f", p, api.ErrThere)
	}
}

func TestRmdirByPaths(t *testing.T) {
	f := tree()
	a, v := api.Spotted{Dir: 1, Name: "a", Ino: 9}, api.Spotted{Dir: 12, Name: "v", Ino: 22}
	for p, at := range map[string]api.Spotted{
		"v": v, "v/": v, "./v//": v, "../e/v": v, "up/e/v/": v, "/d/e/v": v, "/d/s/v": v, "/s/s/v/": v, "/tov/": v, "/tov//": v, "/dots/v": v,
		"/a": a, "/a/": a, "../../a": a, "/r/a": a, "/toa/": a, "/r/toa/": a, "../../../a//": a, "v/../../../a": a,
	} {
		expectRemoved(t, f, "/d/e", p, at)
	}
	// A directory may be taken away from which the path is sought.
	expectRemoved(t, f, "/a", "../a", a)
	expectRemoved(t, f, "/a", "../a/", a)
	// Its name is free behind that, and the directory above may follow it.
	g, _ := Rmdir(f, "/", "d/e/v")
	expectRmdirErr(t, g, "/", "d/e/v", api.ErrNone)
	expectRmdirErr(t, g, "/", "tov/", api.ErrNone)
	expectRmdirErr(t, g, "/", "d/e", api.ErrFull)
	g, _ = Unlink(g, "/", "d/e/f")
	g, _ = Unlink(g, "/", "d/e/up")
	expectRemoved(t, g, "/", "d/e", api.Spotted{Dir: 3, Name: "e", Ino: 12})
}

func TestRmdirOfDots(t *testing.T) {
	f := tree()
	for _, p := range []string{"a/.", "a/./", "a/.//", "d/e/v/.", "d/e/v/..", "d/e/v/../", "d/.", "d/e/.", "d/e/..", "s/.", "dot/", "dots/", "r/dot/", "d/here/", "d/e/up/", "d/s/.", "d/s/.."} {
		expectRmdirErr(t, f, "/", p, api.ErrArg)
	}
	for _, base := range []string{"/a", "/d", "/d/e", "/d/e/v"} {
		expectRmdirErr(t, f, base, ".", api.ErrArg)
		expectRmdirErr(t, f, base, "./", api.ErrArg)
		expectRmdirErr(t, f, base, "./.", api.ErrArg)
	}
	expectRmdirErr(t, f, "/d/e/v", "..", api.ErrArg)
}

func TestRmdirOfRoot(t *testing.T) {
	for _, f := range []api.Fs{tree(), treeOf(), treeOf(line{"/r", api.Sym, 2, "/"})} {
		for _, p := range []string{"/", "//", "..", ".", "./", "/.", "/..", "../..", strings.Repeat("/", 4095)} {
			expectRmdirErr(t, f, "/", p, api.ErrBusy)
		}
	}
	for _, p := range []string{"r/", "r/.", "r/r/", "a/..", "d/e/up/..", "toa/..", "r//"} {
		expectRmdirErr(t, tree(), "/", p, api.ErrBusy)
	}
	expectRmdirErr(t, tree(), "/", "r", api.ErrNotDir)
}

func TestRmdirOfWhatHasEntries(t *testing.T) {
	for _, p := range []string{"d", "d/", "d/e", "d/e//", "s/", "t/", "d/s/", "r/d", "d/here/e", "s/e/"} {
		expectRmdirErr(t, tree(), "/", p, api.ErrFull)
	}
}

func TestPathsErrors(t *testing.T) {
	n := strings.Repeat("n", 256)
	for p, want := range map[string]api.Errno{
		"": api.ErrNone,
		n:  api.ErrName, "q/" + n: api.ErrName, "b/" + n: api.ErrName, "d/" + n + "/": api.ErrName,
		strings.Repeat("./", 2047) + "qq": api.ErrName, strings.Repeat("/", 4096): api.ErrName,
		"b/q": api.ErrNotDir, "d/f/q": api.ErrNotDir, "b/.": api.ErrNotDir, "tof/q": api.ErrNotDir, "b/q/": api.ErrNotDir, "b/": api.ErrNotDir, "tof/": api.ErrNotDir, "b/..": api.ErrNotDir,
		"none/q": api.ErrNone, "none/q/": api.ErrNone, "none/.": api.ErrNone, "d/none/q": api.ErrNone, "dead/q": api.ErrNone, "deep/": api.ErrNone, "deep/q": api.ErrNone, "\x00/q": api.ErrNone,
		"me/": api.ErrLoop, "me/q": api.ErrLoop, "me/none/q": api.ErrLoop, "d/" + strings.Repeat("here/", 41): api.ErrLoop,
		"long/": api.ErrName, "long/q": api.ErrName,
	} {
		expectErrs(t, tree(), "/", p, want)
		if p != "" {
			expectErrs(t, tree(), "/a", "../"+p, want)
		}
	}
	// Of what isn't there yet in a directory that is.
	for _, p := range []string{"q", "d/q", "/d/e/q", "s/q", "q/", "q//", "dead/", "deads/", "d/\x00", "\x00", "a/q/"} {
		expectLinkErr(t, tree(), "/", p, "/q", api.ErrNone)
		expectUnlinkErr(t, tree(), "/", p, api.ErrNone)
		expectRmdirErr(t, tree(), "/", p, api.ErrNone)
	}
	for _, p := range []string{"b", "tof", "d/f", "d/e/up", "me", "r/b"} {
		expectRmdirErr(t, tree(), "/", p, api.ErrNotDir)
	}
}

func TestLinkToWhatMayNotBe(t *testing.T) {
	f := tree()
	for _, to := range []string{"q/", "q//", "d/q/", "s/e/q/", "/q/", "dead/", "deads/", "\x00/", "d/q\x00/"} {
		expectLinkErr(t, f, "/", "b", to, api.ErrNone)
	}
	for _, to := range []string{"\x00", "q\x00", "\x00q", "d/q\x00q", "/s/e/\x00"} {
		expectLinkErr(t, f, "/", "b", to, api.ErrArg)
		expectLinkErr(t, f, "/", "me", to, api.ErrArg)
	}
	for _, to := range []string{"a", "b", "d", "d/f", "s", "me", "dead", "/", ".", "a/.", "a/", "s/"} {
		expectLinkErr(t, f, "/", "b", to, api.ErrThere)
	}
	expectLinked(t, f, "/", "b", "d/"+strings.Repeat("n", 255), 4, 3, strings.Repeat("n", 255))
	expectLinked(t, f, "/", "b", strings.Repeat("./", 1920)+strings.Repeat("n", 255), 4, 1, strings.Repeat("n", 255))
}

func TestErrorsInTheirOrder(t *testing.T) {
	f := tree()
	n := strings.Repeat("n", 256)
	// What applies to to, one after the other, is told behind what applies to from.
	tos := []string{"", n, "b/q", "none/q", "me/q", "a", "b", "/", "q/", "\x00/", "\x00", "q"}
	for _, to := range tos {
		expectLinkErr(t, f, "/", "", to, api.ErrNone)
		expectLinkErr(t, f, "/", n, to, api.ErrName)
		expectLinkErr(t, f, "/", "b/", to, api.ErrNotDir)
		expectLinkErr(t, f, "/", "me/", to, api.ErrLoop)
		expectLinkErr(t, f, "/", "q", to, api.ErrNone)
		expectLinkErr(t, f, "/", "\x00", to, api.ErrNone)
		expectLinkErr(t, f, "/", "d", to, api.ErrPerm)
		expectLinkErr(t, f, "/", "/", to, api.ErrPerm)
		expectLinkErr(t, f, "/", "s/", to, api.ErrPerm)
	}
	expectLinkErr(t, f, "/", "b", "b/\x00/", api.ErrNotDir)
	expectLinkErr(t, f, "/", "b", "none/\x00/", api.ErrNone)
	expectLinkErr(t, f, "/", "b", "d/", api.ErrThere)
	expectLinkErr(t, f, "/", "b", "q\x00/", api.ErrNone)
	// The root is busy whether or not there is an entry's name, and entries; a name is asked for ahead of entries.
	expectRmdirErr(t, f, "/", "/", api.ErrBusy)
	expectRmdirErr(t, treeOf(), "/", "/", api.ErrBusy)
	expectRmdirErr(t, f, "/", "d/.", api.ErrArg)
	expectRmdirErr(t, f, "/", "a/.", api.ErrArg)
	expectRmdirErr(t, f, "/none", "q", api.ErrNone)
	expectRmdirErr(t, f, "d", "", api.ErrNone)
	expectUnlinkErr(t, f, "d", n, api.ErrName)
}

func TestBases(t *testing.T) {
	bases := map[string]api.Errno{
		"": api.ErrArg, "d": api.ErrArg, ".": api.ErrArg, "/d/": api.ErrArg, "//d": api.ErrArg, "/d/..": api.ErrArg, "/\x00": api.ErrArg, "/" + strings.Repeat("n", 256): api.ErrArg,
		"/none": api.ErrNone, "/d/none": api.ErrNone, "/none/q": api.ErrNone,
		"/b": api.ErrNotDir, "/d/f": api.ErrNotDir, "/b/q": api.ErrNotDir, "/s": api.ErrNotDir, "/s/e": api.ErrNotDir, "/dead": api.ErrNotDir,
	}
	f := tree()
	for base, want := range bases {
		for _, p := range []string{"q", ".", "..", "q/", "b", "a", "q/q", "\x00"} {
			expectErrs(t, f, base, p, want)
		}
		// An absolute path doesn't ask about the base.
		expectLinked(t, f, base, "/b", "/d/q", 4, 3, "q")
		expectLinkErr(t, f, base, "/b", "q", want)
		expectLinkErr(t, f, base, "/d", "q", api.ErrPerm)
		expectUnlinked(t, f, base, "/b", api.Spotted{Dir: 1, Name: "b", Ino: 4})
		expectRemoved(t, f, base, "/a", api.Spotted{Dir: 1, Name: "a", Ino: 9})
		expectUnlinkErr(t, f, base, "/none", api.ErrNone)
		expectRmdirErr(t, f, base, "/b", api.ErrNotDir)
	}
}

// P12.3, and P12.1 and P12.2 in each small tree

// grow hands each tree of the lines, and of more of them, so many in all, to do.
func grow(lines []line, most int, do func(api.Fs)) {
	do(treeOf(lines...))
	if len(lines) == most {
		return
	}
	dirs := []string{""}
	var files []line
	for _, l := range lines {
		if l.kind == api.Dir {
			dirs = append(dirs, l.path)
		} else {
			files = append(files, l)
		}
	}
	name, ino := []string{"a", "b", "c"}[len(lines)], 9-len(lines)
	for _, dir := range dirs {
		p := dir + "/" + name
		more := []line{{p, api.Dir, ino, ""}, {p, api.File, ino, "abc"}}
		for _, target := range []string{"a", "b/", "/", "../b/.", "/a/c", "."} {
			more = append(more, line{p, api.Sym, ino, target})
		}
		for _, l := range files {
			more = append(more, line{p, l.kind, l.ino, l.data})
		}
		for _, l := range more {
			grow(append(slices.Clone(lines), l), most, do)
		}
	}
}

// paths answers all texts of at most so many of the parts, with a slash between two.
func paths(most int, parts ...string) []string {
	all, last := []string(nil), []string(nil)
	for i := range most {
		longer := slices.Clone(parts)
		if i > 0 {
			longer = nil
			for _, p := range last {
				for _, part := range parts {
					longer = append(longer, p+"/"+part)
				}
			}
		}
		all, last = append(all, longer...), longer
	}
	return all
}

func TestEachSmallTree(t *testing.T) {
	// An empty part makes a slash at the beginning or the end, or two of them.
	all := paths(3, "a", "b", "c", ".", "..", "", "c\x00")
	trees, changed := 0, 0
	grow(nil, 2, func(f api.Fs) {
		trees++
		expectSound(t, f)
		for _, p := range all {
			want, wantErr := unlinked(f, "/", p)
			if got, e := Unlink(f, "/", p); e != wantErr || !alike(got, want) {
				t.Fatalf("Unlink of %q in %+v: %+v, %d, not %+v, %d", p, f, got, e, want, wantErr)
			} else if e == api.OK {
				at, _ := seek.Seek(f, "/", p, false)
				expectUnlinked(t, f, "/", p, at)
				changed++
			}
			want, wantErr = removed(f, "/", p)
			if got, e := Rmdir(f, "/", p); e != wantErr || !alike(got, want) {
				t.Fatalf("Rmdir of %q in %+v: %+v, %d, not %+v, %d", p, f, got, e, want, wantErr)
			} else if e == api.OK {
				at, _ := seek.Seek(f, "/", p, false)
				expectRemoved(t, f, "/", p, at)
				changed++
			}
		}
	})
	if trees < 80 || changed < 1000 {
		t.Errorf("%d changed in %d trees", changed, trees)
	}
}

func TestLinkInEachSmallTree(t *testing.T) {
	all := paths(2, "a", "b", "c", ".", "", "c\x00")
	trees, changed := 0, 0
	grow(nil, 2, func(f api.Fs) {
		trees++
		for _, from := range all {
			for _, to := range all {
				want, wantErr := linked(f, "/", from, to)
				got, e := Link(f, "/", from, to)
				if e != wantErr || !alike(got, want) {
					t.Fatalf("Link of %q to %q in %+v: %+v, %d, not %+v, %d", from, to, f, got, e, want, wantErr)
				}
				if e == api.OK {
					expectSound(t, got)
					changed++
				}
			}
		}
	})
	if trees < 80 || changed < 1000 {
		t.Errorf("%d changed in %d trees", changed, trees)
	}
}

func TestSoundBehindEachStep(t *testing.T) {
	// Whatever is taken away one after the other, the tree is sound behind each step, till Root is alone.
	f := tree()
	for steps := 0; ; steps++ {
		var last api.Fs
		done := 0
		for _, seen := range slices.Backward(walk.List(f)) {
			p := seen.Path
			at, _ := place.At(f, p)
			if got, e := Unlink(f, "/", p); e == api.OK {
				expectTaken(t, "Unlink of "+p, f, got, e, at)
				last = got
				done++
			}
			if got, e := Rmdir(f, "/", p); e == api.OK {
				expectTaken(t, "Rmdir of "+p, f, got, e, at)
				last = got
				done++
			}
		}
		if done == 0 {
			if len(f.Inodes) != 1 || steps != 23 || f.Next != 30 {
				t.Errorf("behind %d steps: %+v", steps, f)
			}
			return
		}
		f = last
	}
}

func TestNoRoomIsAskedFor(t *testing.T) {
	// An entry more takes neither an inode nor a byte, also where no more fit.
	f := tree()
	if f.MaxInodes != len(f.Inodes) || f.MaxBytes != 9 {
		t.Fatalf("there is room for %d inodes and %d bytes", f.MaxInodes, f.MaxBytes)
	}
	expectLinked(t, f, "/", "d/f", "q", 7, 1, "q")
	expectLinked(t, f, "/", "me", "d/q", 17, 3, "q")
}

// P12.4

// roomy answers the file system in lists of its own, each with room behind it that isn't empty.
func roomy(f api.Fs) api.Fs {
	behind := api.Entry{Name: "zzz", Ino: 77}
	f = copied(f)
	for i, x := range f.Inodes {
		f.Inodes[i].Entries = append(x.Entries, behind, behind, behind)[:len(x.Entries)]
	}
	last := api.Inode{Ino: 77, Kind: api.File, Links: 8, Data: "behind"}
	f.Inodes = append(f.Inodes, last, last, last)[:len(f.Inodes)]
	return f
}

// wholly answers the file system with the room behind its lists laid open.
func wholly(f api.Fs) api.Fs {
	f.Inodes = slices.Clone(f.Inodes[:cap(f.Inodes)])
	for i, x := range f.Inodes {
		f.Inodes[i].Entries = x.Entries[:cap(x.Entries)]
	}
	return copied(f)
}

func TestHandedInStays(t *testing.T) {
	f := roomy(tree())
	before := wholly(f)
	for _, seen := range walk.List(f) {
		if at, _ := place.At(f, seen.Path); at.Name != "" {
			Unname(f, at)
		}
		for _, dir := range dirs() {
			Name(f, api.Spotted{Dir: dir, Name: "zzz"}, seen.Ino)
		}
	}
	all := paths(2, "d", "e", "s", "r", "q", "zzz", "a", "b", "dead", "v", ".", "..", "", "\x00")
	for _, base := range []string{"/", "/d", "/d/e", "/b", "/none", "d"} {
		for _, p := range all {
			Rmdir(f, base, p)
			got, e := Unlink(f, base, p)
			if e == api.OK {
				// What is made of the new one may not show in the old one either.
				Link(got, base, "/b", p)
			}
			got, e = Link(f, base, "/b", p)
			if e == api.OK {
				Unlink(got, base, p)
			}
			Link(f, base, p, "q")
		}
	}
	if after := wholly(f); !reflect.DeepEqual(after, before) {
		t.Fatalf("handed in: %+v, not %+v", after, before)
	}
}

func TestWhatWasAnsweredStays(t *testing.T) {
	// Two that are made of one may not write into each other, nor into what they are made of.
	f, _ := Link(tree(), "/", "b", "/d/q")
	before := copied(f)
	first, e := Unlink(f, "/d", "q")
	second, e2 := Link(f, "/d", "q", "e/q")
	third, e3 := Rmdir(f, "/", "a")
	expectTaken(t, "the first", f, first, e, api.Spotted{Dir: 3, Name: "q", Ino: 4})
	expectGiven(t, "the second", f, second, e2, api.Spotted{Dir: 12, Name: "q"}, 4)
	expectTaken(t, "the third", f, third, e3, api.Spotted{Dir: 1, Name: "a", Ino: 9})
	if !alike(f, before) {
		t.Errorf("what they are made of: %+v, not %+v", f, before)
	}
}

func TestRoomIsNotGoneThrough(t *testing.T) {
	f := roomy(tree())
	expectLinked(t, f, "/", "b", "zzz", 4, 1, "zzz")
	expectLinked(t, f, "/a", "/b", "zzz", 4, 9, "zzz")
	expectLinkErr(t, f, "/", "zzz", "q", api.ErrNone)
	expectUnlinkErr(t, f, "/", "zzz", api.ErrNone)
	expectRmdirErr(t, f, "/a", "zzz", api.ErrNone)
	expectUnlinked(t, f, "/", "tov", api.Spotted{Dir: 1, Name: "tov", Ino: 26})
	expectRemoved(t, f, "/", "a", api.Spotted{Dir: 1, Name: "a", Ino: 9})
}

// shares tells whether two texts have memory in common.
func shares(a, b string) bool {
	if a == "" || b == "" {
		return false
	}
	x, y := uintptr(unsafe.Pointer(unsafe.StringData(a))), uintptr(unsafe.Pointer(unsafe.StringData(b)))
	return x < y+uintptr(len(b)) && y < x+uintptr(len(a))
}

func TestTextsAreNotKept(t *testing.T) {
	f := tree()
	name, p := strings.Repeat("q", 9), "/d/"+strings.Repeat("q", 9)
	byPath, _ := Link(f, "/", "d/f", p)
	away, _ := Unlink(f, "/", "d/f")
	gone, _ := Rmdir(f, "/", "a")
	for _, got := range []api.Fs{Name(f, api.Spotted{Dir: 3, Name: name}, 7), byPath, away, gone} {
		for _, x := range got.Inodes {
			if y := inode(f, x.Ino); shares(x.Data, y.Data) {
				t.Errorf("the data's memory is kept in %+v", x)
			}
			for _, e := range x.Entries {
				if shares(e.Name, name) || shares(e.Name, p) {
					t.Errorf("the name's memory is kept in the entry %q", e.Name)
				}
			}
		}
	}
}

// The rules that hold everywhere

func TestWhateverIsHandedInIsAnswered(t *testing.T) {
	// Of such places and file systems nothing is promised but that the calls end, and leave what is handed in.
	broken := []api.Fs{{}, tree()}
	for _, change := range []func(f *api.Fs){
		func(f *api.Fs) { f.Inodes = f.Inodes[1:] },
		func(f *api.Fs) { slices.Reverse(f.Inodes) },
		func(f *api.Fs) { slices.Reverse(f.Inodes[0].Entries) },
		func(f *api.Fs) { f.Inodes[0].Kind = api.File },
		func(f *api.Fs) { f.Inodes[0].Entries[1].Ino = 99 },
		func(f *api.Fs) { f.Inodes[0].Entries[1].Ino = -1 },
		func(f *api.Fs) { f.Inodes[2].Links = math.MinInt },
		func(f *api.Fs) { f.Inodes[2].Links = math.MaxInt },
		func(f *api.Fs) { f.Inodes[2].Links = 0 },
		func(f *api.Fs) { f.MaxInodes, f.MaxBytes, f.Next = math.MinInt, math.MinInt, math.MinInt },
	} {
		f := copied(tree())
		change(&f)
		broken = append(broken, f)
	}
	numbers := []int{math.MinInt, -1, 0, 1, 3, 4, 9, 99, math.MaxInt}
	for _, f := range broken {
		before := copied(f)
		for _, dir := range numbers {
			for _, ino := range numbers {
				for _, name := range []string{"", "a", "b", "q", "/", "\x00", "d/f", strings.Repeat("n", 256)} {
					Unname(f, api.Spotted{Dir: dir, Name: name, Ino: ino})
					Name(f, api.Spotted{Dir: dir, Name: name, Ino: dir}, ino)
				}
			}
		}
		for _, base := range []string{"", "/", "/d", "/s", "\xff"} {
			for _, p := range append(paths(2, "a", "b", "d", "q", "s", "me", ".", "..", "", "\x00", "\xff"), strings.Repeat("/", 5000)) {
				Link(f, base, p, "q")
				Link(f, base, "/b", p)
				Unlink(f, base, p)
				Rmdir(f, base, p)
			}
		}
		if !alike(f, before) {
			t.Errorf("handed in: %+v, not %+v", f, before)
		}
	}
}
