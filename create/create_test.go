package create

import (
	"cmp"
	"fmt"
	"math"
	"reflect"
	"slices"
	"strings"
	"testing"
	"unsafe"

	"drayman/api"
	"drayman/place"
	"drayman/seek"
	"drayman/sound"
	"drayman/walk"
)

// line is an entry of a tree: where it stands, and the inode that it names, whose Data are of a file or a link alone.
type line struct {
	path string
	kind int
	ino  int
	data string
}

// treeOf answers the file system of these entries, a directory's own ahead of those in it, with room for more than any test makes.
func treeOf(lines ...line) api.Fs {
	inodes := map[int]*api.Inode{1: {Ino: 1, Kind: api.Dir, Parent: 1}}
	dirs := map[string]*api.Inode{"": inodes[1]}
	next := 2
	for _, l := range lines {
		cut := strings.LastIndexByte(l.path, '/')
		dir := dirs[l.path[:cut]]
		dir.Entries = append(dir.Entries, api.Entry{Name: l.path[cut+1:], Ino: l.ino})
		if inodes[l.ino] == nil {
			inodes[l.ino] = &api.Inode{Ino: l.ino, Kind: l.kind, Data: l.data}
		}
		inodes[l.ino].Links++
		if l.kind == api.Dir {
			inodes[l.ino].Parent = dir.Ino
			dirs[l.path] = inodes[l.ino]
		}
		next = max(next, l.ino+1)
	}
	f := api.Fs{MaxInodes: api.MaxCount, MaxBytes: api.MaxCount, Next: next}
	for _, x := range inodes {
		slices.SortFunc(x.Entries, byName)
		f.Inodes = append(f.Inodes, *x)
	}
	slices.SortFunc(f.Inodes, func(x, y api.Inode) int { return cmp.Compare(x.Ino, y.Ino) })
	return f
}

func byName(a, b api.Entry) int { return cmp.Compare(a.Name, b.Name) }

// tree answers a file system of directories in one another, a file of two names, and links: to directories, to a file, to nothing, to itself. Its files have 9 bytes, its inodes end with 21, and the next one is 30.
func tree() api.Fs {
	f := treeOf(
		line{"/a", api.Dir, 9, ""},
		line{"/b", api.File, 4, "abc"},
		line{"/d", api.Dir, 3, ""},
		line{"/d/e", api.Dir, 12, ""},
		line{"/d/e/f", api.File, 7, "\x00\xffdata"},
		line{"/d/e/up", api.Sym, 20, ".."},
		line{"/d/f", api.File, 7, "\x00\xffdata"},
		line{"/d/here", api.Sym, 19, "."},
		line{"/d/s", api.Sym, 8, "/d/e"},
		line{"/dead", api.Sym, 13, "d/none"},
		line{"/deads", api.Sym, 14, "none/"},
		line{"/deep", api.Sym, 15, "none/x"},
		line{"/long", api.Sym, 16, strings.Repeat("n", 256)},
		line{"/me", api.Sym, 17, "me"},
		line{"/r", api.Sym, 11, "/"},
		line{"/s", api.Sym, 10, "d/"},
		line{"/tof", api.Sym, 21, "b"},
	)
	f.Next = 30
	return f
}

// call is one of the three calls, with what it makes.
type call struct {
	name string
	kind int
	data string
}

// calls answers the three calls.
func calls() []call {
	return []call{{"Mkdir", api.Dir, ""}, {"Create", api.File, "abcd"}, {"Symlink", api.Sym, "x//y/"}}
}

// do does the call.
func (c call) do(f api.Fs, base, p string) (api.Fs, api.Errno) {
	switch c.kind {
	case api.Dir:
		return Mkdir(f, base, p)
	case api.File:
		return Create(f, base, p, c.data)
	}
	return Symlink(f, base, c.data, p)
}

// copied answers the file system in lists of its own, those that are empty as nil.
func copied(f api.Fs) api.Fs {
	var inodes []api.Inode
	for _, x := range f.Inodes {
		x.Entries = append([]api.Entry(nil), x.Entries...)
		inodes = append(inodes, x)
	}
	f.Inodes = inodes
	return f
}

// alike tells whether two file systems read alike.
func alike(f, g api.Fs) bool { return reflect.DeepEqual(copied(f), copied(g)) }

// putIn answers, of the chapter's words alone, the file system with such an inode put in at the directory's name.
func putIn(f api.Fs, dir int, name string, kind int, data string) api.Fs {
	f = copied(f)
	x := api.Inode{Ino: f.Next, Kind: kind, Links: 1, Data: data}
	if kind == api.Dir {
		x.Parent = dir
	}
	for i, y := range f.Inodes {
		if y.Ino == dir {
			f.Inodes[i].Entries = append(y.Entries, api.Entry{Name: name, Ino: f.Next})
			slices.SortFunc(f.Inodes[i].Entries, byName)
		}
	}
	f.Inodes = append(f.Inodes, x)
	f.Next++
	return f
}

// wrongName tells, of the document's words alone, whether the name may not be.
func wrongName(name string) bool {
	return name == "" || name == "." || name == ".." || len(name) > 255 || strings.ContainsAny(name, "/\x00")
}

// noRoom tells, of the chapter's words alone, whether there is no room for the inode.
func noRoom(f api.Fs, kind int, data string) bool {
	used := 0
	for _, x := range f.Inodes {
		if x.Kind == api.File {
			used += len(x.Data)
		}
	}
	if kind == api.File {
		used += len(data)
	}
	return len(f.Inodes)+1 > f.MaxInodes || used > f.MaxBytes
}

// answered answers, of the chapter's words alone, what the call does.
func (c call) answered(f api.Fs, base, p string) (api.Fs, api.Errno) {
	at, e := seek.Seek(f, base, p, false)
	slash := strings.HasSuffix(p, "/")
	switch {
	case c.kind == api.Sym && c.data == "":
		return f, api.ErrNone
	case c.kind == api.Sym && len(c.data) > 4095:
		return f, api.ErrName
	case c.kind == api.Sym && strings.Contains(c.data, "\x00"):
		return f, api.ErrArg
	case e != api.OK:
		return f, e
	case at.Ino != 0:
		return f, api.ErrThere
	case slash && c.kind == api.File:
		return f, api.ErrIsDir
	case slash && c.kind == api.Sym:
		return f, api.ErrNone
	case wrongName(at.Name):
		return f, api.ErrArg
	case noRoom(f, c.kind, c.data):
		return f, api.ErrSpace
	}
	return putIn(f, at.Dir, at.Name, c.kind, c.data), api.OK
}

// expectSound asks whether the file system is sound.
func expectSound(t *testing.T, f api.Fs) {
	t.Helper()
	if n := sound.Check(f); n != 0 {
		t.Fatalf("%+v isn't sound: rule %d", f, n)
	}
}

// expectIn asks whether got is f with such an inode put in at the directory's name, is sound, and is gone through as f is, but for that.
func expectIn(t *testing.T, what string, f, got api.Fs, e api.Errno, dir int, name string, kind int, data string) {
	t.Helper()
	if want := putIn(f, dir, name, kind, data); e != api.OK || !alike(got, want) {
		t.Errorf("%s: %+v, %d, not %+v", what, got, e, want)
		return
	}
	expectSound(t, got)
	above, _ := walk.PathOf(f, dir)
	added := api.Seen{Path: strings.TrimSuffix(above, "/") + "/" + name, Ino: f.Next}
	steps := walk.List(got)
	at := slices.Index(steps, added)
	if at < 0 || !slices.Equal(slices.Delete(steps, at, at+1), walk.List(f)) {
		t.Errorf("%s: the walk of what was %v is %v", what, walk.List(f), walk.List(got))
	}
	if x, e := place.Get(got, added.Path); x.Ino != f.Next || e != api.OK {
		t.Errorf("%s: %q leads to %+v, %d", what, added.Path, x, e)
	}
}

// expectNew asks New for the inode, put in there.
func expectNew(t *testing.T, f api.Fs, at api.Spotted, kind int, data string) {
	t.Helper()
	got, e := New(f, at, kind, data)
	expectIn(t, fmt.Sprintf("New at %.80q of kind %d with %.40q", fmt.Sprint(at), kind, data), f, got, e, at.Dir, at.Name, kind, data)
}

// expectNewErr asks New for the error, and for the file system as it was.
func expectNewErr(t *testing.T, f api.Fs, at api.Spotted, kind int, data string, want api.Errno) {
	t.Helper()
	if got, e := New(f, at, kind, data); e != want || !alike(got, f) {
		t.Errorf("New at %.80q of kind %d with %.40q: %+v, %d, not as it was, %d", fmt.Sprint(at), kind, data, got, e, want)
	}
}

// expectMade asks the call for what it makes, put in at the directory's name, and found by the path.
func expectMade(t *testing.T, c call, f api.Fs, base, p string, dir int, name string) {
	t.Helper()
	got, e := c.do(f, base, p)
	what := fmt.Sprintf("%s of %.60q from %.60q", c.name, p, base)
	expectIn(t, what, f, got, e, dir, name, c.kind, c.data)
	if at, e := seek.Seek(got, base, p, false); at != (api.Spotted{Dir: dir, Name: name, Ino: f.Next}) || e != api.OK {
		t.Errorf("%s: the path leads to %+v, %d", what, at, e)
	}
}

// expectErr asks the call for the error, and for the file system as it was.
func expectErr(t *testing.T, c call, f api.Fs, base, p string, want api.Errno) {
	t.Helper()
	if got, e := c.do(f, base, p); e != want || !alike(got, f) {
		t.Errorf("%s of %.60q from %.60q, with %.40q: %+v, %d, not as it was, %d", c.name, p, base, c.data, got, e, want)
	}
}

// expectErrs asks each of the three calls for the error.
func expectErrs(t *testing.T, f api.Fs, base, p string, want api.Errno) {
	t.Helper()
	for _, c := range calls() {
		expectErr(t, c, f, base, p, want)
	}
}

// P11.1

// free answers names that aren't in the tree: ahead of, between and behind those that are there.
func free() []string {
	return []string{"A", " ", "\x01", "...", "aa", "c", "dd", "eq", "g", "none", "sa", "zzz", "é", "\xff"}
}

func TestNew(t *testing.T) {
	f := tree()
	expectSound(t, f)
	for p, dir := range map[string]int{"": 1, "/a": 9, "/d": 3, "/d/e": 12} {
		for _, name := range free() {
			at, e := place.At(f, p+"/"+name)
			if at != (api.Spotted{Dir: dir, Name: name}) || e != api.OK {
				t.Fatalf("%q leads to %+v, %d", p+"/"+name, at, e)
			}
			expectNew(t, f, at, api.Dir, "")
			for _, data := range []string{"", "abc", "\x00", "/", strings.Repeat("x", 1<<16)} {
				expectNew(t, f, at, api.File, data)
			}
			for _, target := range []string{"x", "/", "..", name, strings.Repeat("n", 4095)} {
				expectNew(t, f, at, api.Sym, target)
			}
		}
	}
}

func TestNewWrittenOut(t *testing.T) {
	f := treeOf(line{"/d", api.Dir, 2, ""}, line{"/d/m", api.File, 5, "abc"})
	f.Next = 8
	in := api.Spotted{Dir: 2, Name: "k"}
	for _, x := range []api.Inode{
		{Ino: 8, Kind: api.Dir, Links: 1, Parent: 2},
		{Ino: 8, Kind: api.File, Links: 1, Data: "xy"},
		{Ino: 8, Kind: api.Sym, Links: 1, Data: "m"},
	} {
		got, e := New(f, in, x.Kind, x.Data)
		want := api.Fs{MaxInodes: api.MaxCount, MaxBytes: api.MaxCount, Next: 9, Inodes: []api.Inode{
			{Ino: 1, Kind: api.Dir, Parent: 1, Entries: []api.Entry{{Name: "d", Ino: 2}}},
			{Ino: 2, Kind: api.Dir, Links: 1, Parent: 1, Entries: []api.Entry{{Name: "k", Ino: 8}, {Name: "m", Ino: 5}}},
			{Ino: 5, Kind: api.File, Links: 1, Data: "abc"},
			x,
		}}
		if e != api.OK || !alike(got, want) {
			t.Errorf("New of kind %d: %+v, %d, not %+v", x.Kind, got, e, want)
		}
	}
}

func TestNewByOneAfterTheOther(t *testing.T) {
	f := treeOf()
	for _, at := range []api.Spotted{{Dir: 1, Name: "m"}, {Dir: 1, Name: "c"}, {Dir: 1, Name: "x"}, {Dir: 2, Name: "a"}, {Dir: 5, Name: "z"}, {Dir: 1, Name: "n"}} {
		expectNew(t, f, at, api.Dir, "")
		f, _ = New(f, at, api.Dir, "")
	}
	if got, want := fmt.Sprint(walk.List(f)), "[{/ 1} {/c 3} {/m 2} {/m/a 5} {/m/a/z 6} {/n 7} {/x 4}]"; got != want {
		t.Errorf("the walk of what was made: %s, not %s", got, want)
	}
}

func TestNewByTheLastNumber(t *testing.T) {
	f := tree()
	f.Next = 1<<40 - 1
	for _, c := range calls() {
		expectNew(t, f, api.Spotted{Dir: 3, Name: "q"}, c.kind, c.data)
		expectMade(t, c, f, "/d", "q", 3, "q")
	}
}

// wrongNames answers names that may not be in a directory.
func wrongNames() []string {
	return []string{strings.Repeat("n", 256), "\x00", "q\x00", "\x00q", "q\x00q", "", ".", "..", "/", "q/", "q/q"}
}

func TestNewOfNames(t *testing.T) {
	f := tree()
	full, taken := tree(), tree()
	full.MaxInodes, taken.MaxBytes = len(f.Inodes), 9
	for _, c := range calls() {
		for _, dir := range []int{1, 3, 9, 12} {
			expectNew(t, f, api.Spotted{Dir: dir, Name: strings.Repeat("n", 255)}, c.kind, c.data)
			for _, name := range wrongNames() {
				expectNewErr(t, f, api.Spotted{Dir: dir, Name: name}, c.kind, c.data, api.ErrArg)
				// A name that may not be is named ahead of room that there isn't.
				expectNewErr(t, full, api.Spotted{Dir: dir, Name: name}, c.kind, c.data, api.ErrArg)
				expectNewErr(t, taken, api.Spotted{Dir: dir, Name: name}, c.kind, c.data, api.ErrArg)
			}
		}
	}
}

func TestNewAtTheRoomsEdge(t *testing.T) {
	at := api.Spotted{Dir: 12, Name: "q"}
	for _, c := range calls() {
		f := tree()
		f.MaxInodes = len(f.Inodes) + 1
		expectNew(t, f, at, c.kind, c.data)
		g, _ := New(f, at, c.kind, c.data)
		for _, other := range calls() {
			expectNewErr(t, g, api.Spotted{Dir: 1, Name: "q"}, other.kind, other.data, api.ErrSpace)
			expectErr(t, other, g, "/", "q", api.ErrSpace)
		}
	}
	f := tree()
	for left := range 4 {
		f.MaxBytes = 9 + left
		expectNew(t, f, at, api.File, strings.Repeat("x", left))
		expectNewErr(t, f, at, api.File, strings.Repeat("x", left+1), api.ErrSpace)
		expectNewErr(t, f, at, api.File, strings.Repeat("x", 1000), api.ErrSpace)
		// Directories and links take no bytes.
		expectNew(t, f, at, api.Dir, "")
		expectNew(t, f, at, api.Sym, "x")
		expectNew(t, f, at, api.Sym, strings.Repeat("x", 4095))
	}
	least := treeOf()
	least.MaxInodes, least.MaxBytes = 2, 0
	for _, c := range []call{{"Mkdir", api.Dir, ""}, {"Create", api.File, ""}, {"Symlink", api.Sym, "x"}} {
		expectNew(t, least, api.Spotted{Dir: 1, Name: "q"}, c.kind, c.data)
		least.MaxInodes = 1
		expectNewErr(t, least, api.Spotted{Dir: 1, Name: "q"}, c.kind, c.data, api.ErrSpace)
		least.MaxInodes = 2
	}
}

// P11.2

func TestChaptersExamples(t *testing.T) {
	f := treeOf()
	expectErr(t, call{"Mkdir", api.Dir, ""}, f, "/", "a/b", api.ErrNone)
	expectErr(t, call{"Create", api.File, "abc"}, f, "/", "a/", api.ErrIsDir)
}

func TestMadeByPaths(t *testing.T) {
	f := tree()
	for _, c := range calls() {
		for _, name := range free() {
			expectMade(t, c, f, "/", name, 1, name)
			expectMade(t, c, f, "/", "/"+name, 1, name)
			expectMade(t, c, f, "/d", name, 3, name)
			expectMade(t, c, f, "/", "d/e/"+name, 12, name)
			expectMade(t, c, f, "/d/e", "/a/"+name, 9, name)
		}
		for p, dir := range map[string]int{
			"./q": 12, "../q": 3, "../../q": 1, "../../../q": 1, "../e/./q": 12, "..//../a//q": 9,
			"up/q": 3, "up/e/up/here/q": 3, "/s/q": 3, "/r/q": 1, "/d/s/q": 12, "/r/s/here/s/q": 12, "//d/e/..//../q": 1, "/s/../q": 1, "/d/s/../q": 3,
		} {
			expectMade(t, c, f, "/d/e", p, dir, "q")
		}
		n := strings.Repeat("n", 255)
		expectMade(t, c, f, "/d", n, 3, n)
		expectMade(t, c, f, "/d", strings.Repeat("./", 1920)+n, 3, n)
	}
}

func TestMadeOfData(t *testing.T) {
	f := tree()
	for _, data := range []string{"", "abc", "\x00\xff", strings.Repeat("x", 1<<20)} {
		expectMade(t, call{"Create", api.File, data}, f, "/d", "q", 3, "q")
	}
	for _, target := range []string{"q", "/", "//", ".", "x/", "\xff", "none/none", "../../..", strings.Repeat("n", 256), strings.Repeat("x/", 2047) + "x"} {
		expectMade(t, call{"Symlink", api.Sym, target}, f, "/d", "q", 3, "q")
	}
}

func TestSlashes(t *testing.T) {
	f := tree()
	mkdir, file, link := calls()[0], calls()[1], calls()[2]
	for p, at := range map[string]api.Spotted{
		"q/": {Dir: 1, Name: "q"}, "q///": {Dir: 1, Name: "q"}, "/d/q/": {Dir: 3, Name: "q"}, "s/e//q//": {Dir: 12, Name: "q"},
		// With a slash behind it a link is followed, to where there is nothing yet.
		"dead/": {Dir: 3, Name: "none"}, "deads/": {Dir: 1, Name: "none"}, "deads//": {Dir: 1, Name: "none"},
	} {
		expectMade(t, mkdir, f, "/", p, at.Dir, at.Name)
		expectErr(t, file, f, "/", p, api.ErrIsDir)
		expectErr(t, link, f, "/", p, api.ErrNone)
	}
	// What leads to an inode is there already, whatever its end; a file isn't found with a slash behind it.
	for _, p := range []string{"/", "//", "./", "../", "a/", "d//", "d/e/", "s/", "r/", "d/here/", "d/e/up//"} {
		expectErrs(t, f, "/", p, api.ErrThere)
	}
	for _, p := range []string{"b/", "d/f//", "tof/"} {
		expectErrs(t, f, "/", p, api.ErrNotDir)
	}
}

func TestWhatIsThere(t *testing.T) {
	for _, p := range []string{".", "..", "/", "d", "a", "d/e", "b", "d/f", "d/e/f", "s", "r", "tof", "dead", "deads", "deep", "me", "long", "d/.", "d/..", "d/e/up/..", "/.", "/..", "s/e", "d/s", "/d/here"} {
		expectErrs(t, tree(), "/", p, api.ErrThere)
		expectErrs(t, tree(), "/a", "../"+p, api.ErrThere)
	}
}

func TestPathsErrors(t *testing.T) {
	n := strings.Repeat("n", 256)
	for p, want := range map[string]api.Errno{
		"":       api.ErrNone,
		n:        api.ErrName,
		"q/" + n: api.ErrName, "b/" + n: api.ErrName, "d/" + n + "/": api.ErrName,
		strings.Repeat("./", 2047) + "qq": api.ErrName, strings.Repeat("/", 4096): api.ErrName,
		"b/q": api.ErrNotDir, "d/f/q": api.ErrNotDir, "b/.": api.ErrNotDir, "tof/q": api.ErrNotDir, "b/q/": api.ErrNotDir,
		"none/q": api.ErrNone, "none/q/": api.ErrNone, "none/.": api.ErrNone, "d/none/q": api.ErrNone, "dead/q": api.ErrNone, "deep/": api.ErrNone, "deep/q": api.ErrNone,
		"me/": api.ErrLoop, "me/q": api.ErrLoop, "me/none/q": api.ErrLoop,
		"long/": api.ErrName, "long/q": api.ErrName,
		"\x00": api.ErrArg, "q\x00": api.ErrArg, "d/\x00q": api.ErrArg, "s/e/q\x00q": api.ErrArg,
		"\x00/q": api.ErrNone,
	} {
		expectErrs(t, tree(), "/", p, want)
		if p != "" {
			expectErrs(t, tree(), "/a", "../"+p, want)
		}
	}
}

func TestLinksThatAreFollowed(t *testing.T) {
	f := tree()
	for _, c := range calls() {
		expectMade(t, c, f, "/d", strings.Repeat("here/", 40)+"q", 3, "q")
		expectErr(t, c, f, "/d", strings.Repeat("here/", 41)+"q", api.ErrLoop)
		// The last name isn't followed.
		expectErr(t, c, f, "/d", strings.Repeat("here/", 40)+"here", api.ErrThere)
	}
}

func TestTargets(t *testing.T) {
	n := strings.Repeat("n", 256)
	full := tree()
	full.MaxInodes = len(full.Inodes)
	for _, f := range []api.Fs{tree(), full} {
		for _, base := range []string{"/", "/d", "/none", "d"} {
			for _, p := range []string{"q", "", n, "b/q", "/b/q", "none/q", "b", "/b", "/", ".", "me/q", "q/", "/q\x00", "dead", "/b/"} {
				expectErr(t, call{"Symlink", api.Sym, ""}, f, base, p, api.ErrNone)
				expectErr(t, call{"Symlink", api.Sym, strings.Repeat("n", 4096)}, f, base, p, api.ErrName)
				expectErr(t, call{"Symlink", api.Sym, strings.Repeat("\x00", 4096)}, f, base, p, api.ErrName)
				expectErr(t, call{"Symlink", api.Sym, strings.Repeat("/", 4096)}, f, base, p, api.ErrName)
				for _, target := range []string{"\x00", "x\x00", "\x00x", "x/\x00/x", strings.Repeat("n", 4094) + "\x00"} {
					expectErr(t, call{"Symlink", api.Sym, target}, f, base, p, api.ErrArg)
				}
			}
		}
	}
	expectMade(t, call{"Symlink", api.Sym, strings.Repeat("n", 4095)}, tree(), "/", "q", 1, "q")
	// A file's data may be what no target may.
	expectMade(t, call{"Create", api.File, "\x00"}, tree(), "/", "q", 1, "q")
	expectMade(t, call{"Create", api.File, strings.Repeat("n", 4096)}, tree(), "/", "q", 1, "q")
}

func TestErrorsInTheirOrder(t *testing.T) {
	f := tree()
	f.MaxInodes, f.MaxBytes = len(f.Inodes), 9
	mkdir, file, link := calls()[0], calls()[1], calls()[2]
	for _, p := range []string{"q", "d/q", "/s/e/q"} {
		expectErrs(t, f, "/", p, api.ErrSpace)
		expectErrs(t, f, "/", p+"\x00", api.ErrArg)
		for _, behind := range []string{"/", "\x00/"} {
			expectErr(t, file, f, "/", p+behind, api.ErrIsDir)
			expectErr(t, link, f, "/", p+behind, api.ErrNone)
		}
		expectErr(t, mkdir, f, "/", p+"/", api.ErrSpace)
		expectErr(t, mkdir, f, "/", p+"\x00/", api.ErrArg)
	}
	// What is there is named ahead of the slash, of the name and of the room; the way's errors ahead of all these.
	expectErrs(t, f, "/", "d/", api.ErrThere)
	expectErrs(t, f, "/", "b", api.ErrThere)
	expectErrs(t, f, "/", "b/", api.ErrNotDir)
	expectErrs(t, f, "/", "b/\x00", api.ErrNotDir)
	expectErrs(t, f, "/", "none/\x00/", api.ErrNone)
	expectErrs(t, f, "/none", "q/", api.ErrNone)
	expectErrs(t, f, "/none", "", api.ErrNone)
	expectErrs(t, f, "d", strings.Repeat("n", 256), api.ErrName)
}

func TestBases(t *testing.T) {
	bases := map[string]api.Errno{
		"": api.ErrArg, "d": api.ErrArg, ".": api.ErrArg, "/d/": api.ErrArg, "//d": api.ErrArg, "/d/..": api.ErrArg, "/\x00": api.ErrArg, "/" + strings.Repeat("n", 256): api.ErrArg,
		"/none": api.ErrNone, "/d/none": api.ErrNone, "/none/q": api.ErrNone,
		"/b": api.ErrNotDir, "/d/f": api.ErrNotDir, "/b/q": api.ErrNotDir, "/s": api.ErrNotDir, "/s/e": api.ErrNotDir, "/dead": api.ErrNotDir,
	}
	for base, want := range bases {
		for _, p := range []string{"q", ".", "..", "q/", "b", "q/q", "\x00"} {
			expectErrs(t, tree(), base, p, want)
		}
		// An absolute path doesn't ask about the base.
		for _, c := range calls() {
			expectMade(t, c, tree(), base, "/d/q", 3, "q")
			expectErr(t, c, tree(), base, "/d/f", api.ErrThere)
			expectErr(t, c, tree(), base, "/none/q", api.ErrNone)
		}
	}
}

// P11.3, and P11.1 and P11.2 in each small tree

// grow hands each tree of the lines, and of at most two more of them, to do.
func grow(lines []line, do func(api.Fs)) {
	do(treeOf(lines...))
	if len(lines) == 2 {
		return
	}
	dirs := []string{""}
	for _, l := range lines {
		if l.kind == api.Dir {
			dirs = append(dirs, l.path)
		}
	}
	name, ino := []string{"a", "b"}[len(lines)], 9-len(lines)
	for _, dir := range dirs {
		p := dir + "/" + name
		grow(append(slices.Clone(lines), line{p, api.Dir, ino, ""}), do)
		grow(append(slices.Clone(lines), line{p, api.File, ino, "abc"}), do)
		for _, target := range []string{"a", "b/", "/", "../b/.", "/a/c", "."} {
			grow(append(slices.Clone(lines), line{p, api.Sym, ino, target}), do)
		}
	}
}

// paths answers all texts of at most so many of the parts, with a slash between two.
func paths(most int, parts ...string) []string {
	all, last := []string(nil), []string(nil)
	for i := range most {
		longer := slices.Clone(parts)
		if i > 0 {
			longer = nil
			for _, p := range last {
				for _, part := range parts {
					longer = append(longer, p+"/"+part)
				}
			}
		}
		all, last = append(all, longer...), longer
	}
	return all
}

func TestEachSmallTree(t *testing.T) {
	// An empty part makes a slash at the beginning or the end, or two of them.
	all := paths(3, "a", "b", "c", ".", "..", "", "c\x00")
	trees, made := 0, 0
	grow(nil, func(f api.Fs) {
		trees++
		expectSound(t, f)
		// Of room there is enough, or one inode too few, or two bytes too few for the file.
		full, taken := f, f
		full.MaxInodes, taken.MaxBytes = len(f.Inodes), 5
		for _, f := range []api.Fs{f, full, taken} {
			for _, p := range all {
				for _, c := range calls() {
					want, wantErr := c.answered(f, "/", p)
					if got, e := c.do(f, "/", p); e != wantErr || !alike(got, want) {
						t.Fatalf("%s of %q in %+v: %+v, %d, not %+v, %d", c.name, p, f, got, e, want, wantErr)
					}
					if wantErr == api.OK {
						at, _ := seek.Seek(f, "/", p, false)
						expectMade(t, c, f, "/", p, at.Dir, at.Name)
						made++
					}
				}
			}
		}
	})
	if trees < 50 || made < 1000 {
		t.Errorf("%d made in %d trees", made, trees)
	}
}

func TestWhatIsMadeIsFound(t *testing.T) {
	// Each one is made in what the ones ahead made, through the links among them.
	f := treeOf()
	for _, x := range []struct {
		c       call
		base, p string
		path    string
	}{
		{calls()[0], "/", "d", "/d"},
		{call{"Symlink", api.Sym, "d/e"}, "/", "s", "/s"},
		{calls()[0], "/", "s/", "/d/e"},
		{calls()[1], "/d", "../s/f", "/d/e/f"},
		{call{"Symlink", api.Sym, "../.."}, "/d/e", "up", "/d/e/up"},
		{calls()[1], "/d", "e/up/g", "/g"},
		{calls()[0], "/d/e", "up/s/x//", "/d/e/x"},
		{call{"Create", api.File, ""}, "/d/e/x", "./y", "/d/e/x/y"},
	} {
		got, e := x.c.do(f, x.base, x.p)
		at, e2 := place.At(f, x.path)
		if e != api.OK || e2 != api.OK {
			t.Fatalf("%s of %q: %d, %d", x.c.name, x.p, e, e2)
		}
		expectMade(t, x.c, f, x.base, x.p, at.Dir, at.Name)
		if y, e := place.Get(got, x.path); y.Ino != f.Next || y.Kind != x.c.kind || y.Data != x.c.data || e != api.OK {
			t.Errorf("%q leads to %+v, %d", x.path, y, e)
		}
		f = got
	}
}

func TestManyInOneDirectory(t *testing.T) {
	const many = 1 << 9
	f := treeOf()
	f.MaxInodes = many + 1
	for i := range many {
		// By such steps names come ahead of, between and behind those that are there.
		p := fmt.Sprintf("%03x", i*37%many)
		got, e := calls()[i%3].do(f, "/", p)
		if e != api.OK {
			t.Fatalf("%q: %d", p, e)
		}
		f = got
	}
	expectSound(t, f)
	if len(f.Inodes) != many+1 || len(f.Inodes[0].Entries) != many || f.Next != many+2 {
		t.Errorf("%d inodes, %d entries, the next one %d", len(f.Inodes), len(f.Inodes[0].Entries), f.Next)
	}
	expectErrs(t, f, "/", "q", api.ErrSpace)
}

func TestDeep(t *testing.T) {
	const many = 1 << 9
	f, base := treeOf(), "/"
	for range many {
		got, e := Mkdir(f, base, "n")
		if e != api.OK {
			t.Fatalf("Mkdir below %d names: %d", strings.Count(base, "n"), e)
		}
		f, base = got, strings.TrimSuffix(base, "/")+"/n"
	}
	expectMade(t, calls()[1], f, base, "q", many+1, "q")
	expectMade(t, calls()[2], f, "/", base+"/../q", many, "q")
}

// P11.4

// roomy answers the file system in lists of its own, each with room behind it that isn't empty.
func roomy(f api.Fs) api.Fs {
	behind := api.Entry{Name: "zzz", Ino: 77}
	f = copied(f)
	for i, x := range f.Inodes {
		f.Inodes[i].Entries = append(x.Entries, behind, behind, behind)[:len(x.Entries)]
	}
	last := api.Inode{Ino: 77, Kind: api.File, Links: 8, Data: "behind"}
	f.Inodes = append(f.Inodes, last, last, last)[:len(f.Inodes)]
	return f
}

// wholly answers the file system with the room behind its lists laid open.
func wholly(f api.Fs) api.Fs {
	f.Inodes = slices.Clone(f.Inodes[:cap(f.Inodes)])
	for i, x := range f.Inodes {
		f.Inodes[i].Entries = x.Entries[:cap(x.Entries)]
	}
	return copied(f)
}

func TestHandedInStays(t *testing.T) {
	f := roomy(tree())
	full := f
	full.MaxInodes = len(f.Inodes)
	before := wholly(f)
	for _, c := range calls() {
		for _, name := range append(free(), wrongNames()...) {
			for _, dir := range []int{1, 3, 9, 12} {
				New(f, api.Spotted{Dir: dir, Name: name}, c.kind, c.data)
				New(full, api.Spotted{Dir: dir, Name: name}, c.kind, c.data)
			}
		}
		for _, base := range []string{"/", "/d", "/d/e", "/b", "/none", "d"} {
			for _, p := range paths(2, "d", "e", "s", "r", "q", "zzz", "a", "b", "dead", "me", ".", "..", "", "\x00") {
				got, e := c.do(f, base, p)
				c.do(full, base, p)
				if e == api.OK {
					// What is made of the new one may not show in the old one either.
					c.do(got, base, p+"q")
				}
			}
		}
		if after := wholly(f); !reflect.DeepEqual(after, before) {
			t.Fatalf("handed in to %s: %+v, not %+v", c.name, after, before)
		}
	}
}

func TestWhatWasMadeStays(t *testing.T) {
	// Two that are made of one may not write into each other, nor into what they are made of.
	f, _ := Mkdir(tree(), "/d", "q")
	before := copied(f)
	first, e := Mkdir(f, "/d", "u")
	second, e2 := Create(f, "/d/q", "v", "xy")
	third, e3 := Symlink(f, "/", "x", "w")
	expectIn(t, "the first", f, first, e, 3, "u", api.Dir, "")
	expectIn(t, "the second", f, second, e2, 30, "v", api.File, "xy")
	expectIn(t, "the third", f, third, e3, 1, "w", api.Sym, "x")
	if !alike(f, before) {
		t.Errorf("what they are made of: %+v, not %+v", f, before)
	}
}

func TestRoomIsNotGoneThrough(t *testing.T) {
	f := roomy(tree())
	for _, c := range calls() {
		expectMade(t, c, f, "/", "zzz", 1, "zzz")
		expectMade(t, c, f, "/a", "zzz", 9, "zzz")
		expectErr(t, c, f, "/", "zzz/q", api.ErrNone)
	}
}

// shares tells whether two texts have memory in common.
func shares(a, b string) bool {
	if a == "" || b == "" {
		return false
	}
	x, y := uintptr(unsafe.Pointer(unsafe.StringData(a))), uintptr(unsafe.Pointer(unsafe.StringData(b)))
	return x < y+uintptr(len(b)) && y < x+uintptr(len(a))
}

func TestTextsAreNotKept(t *testing.T) {
	name, data, p := strings.Repeat("q", 9), strings.Repeat("x", 9), "/d/"+strings.Repeat("q", 9)
	for _, kind := range []int{api.File, api.Sym} {
		byName, _ := New(tree(), api.Spotted{Dir: 3, Name: name}, kind, data)
		byPath, _ := call{kind: kind, data: data}.do(tree(), "/", p)
		for _, x := range slices.Concat(byName.Inodes, byPath.Inodes) {
			if shares(x.Data, data) {
				t.Errorf("the data's memory is kept in %+v", x)
			}
			for _, e := range x.Entries {
				if shares(e.Name, name) || shares(e.Name, p) {
					t.Errorf("the name's memory is kept in the entry %q", e.Name)
				}
			}
		}
	}
}

// The rules that hold everywhere

func TestWhateverIsHandedInIsAnswered(t *testing.T) {
	// Of such places, kinds and file systems nothing is promised but that the calls end, and leave what is handed in.
	broken := []api.Fs{{}, tree()}
	for _, change := range []func(f *api.Fs){
		func(f *api.Fs) { f.Inodes = f.Inodes[1:] },
		func(f *api.Fs) { slices.Reverse(f.Inodes) },
		func(f *api.Fs) { slices.Reverse(f.Inodes[0].Entries) },
		func(f *api.Fs) { f.Inodes[0].Kind = api.File },
		func(f *api.Fs) { f.Inodes[0].Entries[2].Ino = 99 },
		func(f *api.Fs) { f.Next = math.MinInt },
		func(f *api.Fs) { f.Next = math.MaxInt },
		func(f *api.Fs) { f.Next = 4 },
		func(f *api.Fs) { f.MaxInodes, f.MaxBytes = math.MinInt, math.MinInt },
		func(f *api.Fs) { f.MaxInodes, f.MaxBytes = math.MaxInt, math.MaxInt },
	} {
		f := copied(tree())
		change(&f)
		broken = append(broken, f)
	}
	for _, f := range broken {
		before := copied(f)
		for _, dir := range []int{math.MinInt, -1, 0, 1, 4, 8, 99, math.MaxInt} {
			for _, name := range append(wrongNames(), "q", "d") {
				for kind := -1; kind < 5; kind++ {
					New(f, api.Spotted{Dir: dir, Name: name, Ino: dir}, kind, "a\x00")
				}
			}
		}
		for _, c := range calls() {
			for _, base := range []string{"", "/", "/d", "/s", "\xff"} {
				for _, p := range append(paths(2, "d", "q", "s", "me", ".", "..", "", "\x00", "\xff"), strings.Repeat("/", 5000)) {
					c.do(f, base, p)
				}
			}
		}
		if !alike(f, before) {
			t.Errorf("handed in: %+v, not %+v", f, before)
		}
	}
}
